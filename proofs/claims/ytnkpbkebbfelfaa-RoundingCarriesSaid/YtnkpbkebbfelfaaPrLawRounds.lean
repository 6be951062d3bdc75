/-
  RoundingRounds: the walk: six made roundings and two arbitrary ones agree with the reference; the answer is true.
-/
import Derived.Test.YtnkpbkebbfelfaaPrKept
import Derived.Test.YtnkpbkebbfelfaaPrRounds
import Derived.Test.YtnkpbkebbfelfaaPrSane2
namespace Go.Proofs.Ytnkpbkebbfelfaa
open Go Go.RowKit Go.Lib Go.Proofs.Ytnkpbkebbfelfaa.Tp
set_option linter.unusedVariables false

theorem cell_low {w w' : World} {p : Addr} {v : Value} (h : w.cell? p = some v) (hb : Below w.heap.size w w') : w'.cell? p = some v := (hb.cell (World.block_lt_of_cell? w p h)).trans h
theorem rounds_at (a b c d e f m : Int) (w : World) (h : (-9223372036854775808 ≤ a ∧ a ≤ 9223372036854775807) ∧ (-9223372036854775808 ≤ b ∧ b ≤ 9223372036854775807) ∧ (-9223372036854775808 ≤ c ∧ c ≤ 9223372036854775807) ∧ (-9223372036854775808 ≤ d ∧ d ≤ 9223372036854775807) ∧ (-9223372036854775808 ≤ e ∧ e ≤ 9223372036854775807) ∧ (-9223372036854775808 ≤ f ∧ f ≤ 9223372036854775807) ∧ (-9223372036854775808 ≤ m ∧ m ≤ 9223372036854775807)) :
    Calls Try.prog 20 #[.agg #[.int .i64 a, .int .i64 b], .agg #[.int .i64 c, .int .i64 d], .agg #[.int .i64 e, .int .i64 f], .int .i64 m] w fun e' w' => e' = .returned (.bool true) ∧ Below w.heap.size w w' :=
  rounds_any a b c d e f m h.1.1 h.1.2 h.2.1.1 h.2.1.2 h.2.2.1.1 h.2.2.1.2 h.2.2.2.1.1 h.2.2.2.1.2 h.2.2.2.2.1.1 h.2.2.2.2.1.2 h.2.2.2.2.2.1.1 h.2.2.2.2.2.1.2 h.2.2.2.2.2.2.1 h.2.2.2.2.2.2.2 w
set_option maxHeartbeats 1000000 in
theorem one_any (w : World) : Calls Try.prog 21 #[] w fun e w' => e = .returned (.agg #[.int .i64 1, .int .i64 1]) ∧ Below w.heap.size w w' := by
  go_enter Try.func21, Try.ntmps21
  go_wp2
  refine bodyPost_ret (v := .agg #[.int .i64 1, .int .i64 1]) (by simp [results, Try.results21, go_sem]) rfl ⟨rfl, ?_⟩
  repeat (first | exact Below.refl _ _ | assumption | refine below_drewN ?_ _ | refine Below.setCell ?_ (by simp <;> omega) _ | refine Below.alloc ?_ (by simp <;> omega) _)

theorem Tp.Res.far' {u : World} {s : Nat} {x y : Int} {p : Addr} (h : Res u s x y) (hp : p.block ≠ s) (v : Value) : Res (u.setCell p v) s x y := by
  have e : (u.setCell p v).heap[s]? = u.heap[s]? := Below.heap_setCell u p v s (fun e => hp e.symm)
  exact ⟨(World.cell?_of_block (a := ⟨s, 0, none⟩) e).trans h.c0, (World.cell?_of_block (a := ⟨s, 1, none⟩) e).trans h.c1, (World.frozen?_of_block (a := ⟨s, 0, none⟩) e).trans h.f0, (World.frozen?_of_block (a := ⟨s, 1, none⟩) e).trans h.f1⟩
theorem Tp.Res.drew' {u : World} {s : Nat} {x y : Int} (h : Res u s x y) : Res u.drew s x y := ⟨h.c0, h.c1, h.f0, h.f1⟩
theorem Tp.Kept.far' {w u : World} {b : Nat} {p : Addr} (h : Kept w b u) (hp : b < p.block) (v : Value) : Kept w b (u.setCell p v) := ⟨h.tape.far hp v, h.below.setCell (Nat.le_trans h.far (Nat.le_of_lt hp)) v, h.far⟩
theorem Tp.Kept.drew' {w u : World} {b : Nat} (h : Kept w b u) : Kept w b u.drew := h.drewN 1
/-- What the loop keeps. -/
structure RndI (w : World) (a b c d e f : Int) (wr : World) : Prop where
  kept : Kept w (w.heap.size + 1 + 1 + 1) wr
  x : Res wr w.heap.size a b
  y : Res wr (w.heap.size + 1) c d
  z : Res wr (w.heap.size + 1 + 1) e f
theorem RndI.only {w : World} {a b c d e f : Int} {u v : World} (h : RndI w a b c d e f u) (hT : TapeAt (w.heap.size + 1 + 1 + 1) v) (hO : Only (w.heap.size + 1 + 1 + 1) u v) : RndI w a b c d e f v :=
  ⟨h.kept.only hT hO, h.x.only (by omega) hO, h.y.only (by omega) hO, h.z.only (by omega) hO⟩
theorem RndI.more {w : World} {a b c d e f : Int} {u v : World} (h : RndI w a b c d e f u) (hB : Below u.heap.size u v) : RndI w a b c d e f v :=
  ⟨h.kept.more hB, h.x.below hB, h.y.below hB, h.z.below hB⟩
theorem RndI.alloc {w : World} {a b c d e f : Int} {u : World} (h : RndI w a b c d e f u) (o : Obj) : RndI w a b c d e f (u.alloc o) := h.more (Below.alloc (Below.refl _ _) (Nat.le_refl _) o)
theorem RndI.far {w : World} {a b c d e f : Int} {u : World} {p : Addr} (h : RndI w a b c d e f u) (hp : w.heap.size + 1 + 1 + 1 < p.block) (v : Value) : RndI w a b c d e f (u.setCell p v) :=
  ⟨h.kept.far' hp v, h.x.far' (by omega) v, h.y.far' (by omega) v, h.z.far' (by omega) v⟩
theorem RndI.drew {w : World} {a b c d e f : Int} {u : World} (h : RndI w a b c d e f u) : RndI w a b c d e f u.drew := ⟨h.kept.drew', h.x.drew', h.y.drew', h.z.drew'⟩

set_option maxRecDepth 100000 in
set_option maxHeartbeats 8000000 in
theorem rlaw_walk (p : Option Addr) (len cap : Nat) (zs : List Int) (a b c d e f m : Int) (ha0 : -9223372036854775808 ≤ a) (ha1 : a ≤ 9223372036854775807) (hb0 : -9223372036854775808 ≤ b) (hb1 : b ≤ 9223372036854775807) (hc0 : -9223372036854775808 ≤ c) (hc1 : c ≤ 9223372036854775807) (hd0 : -9223372036854775808 ≤ d) (hd1 : d ≤ 9223372036854775807) (he0 : -9223372036854775808 ≤ e) (he1 : e ≤ 9223372036854775807) (hf0 : -9223372036854775808 ≤ f) (hf1 : f ≤ 9223372036854775807) (hm0 : -9223372036854775808 ≤ m) (hm1 : m ≤ 9223372036854775807)
    (w : World) (hr : IsRow w p len cap zs) (hl : len ≤ 9223372036854775807) :
    Calls Try.prog 4 #[.slice p len cap, .agg #[.int .i64 a, .int .i64 b], .agg #[.int .i64 c, .int .i64 d], .agg #[.int .i64 e, .int .i64 f], .int .i64 m] w fun e' w' => e' = .returned (.bool true) ∧ Below w.heap.size w w' := by
  have hr2 : IsRow (((w.alloc (.cells #[.int .i64 a, .int .i64 b] 35)).alloc (.cells #[.int .i64 c, .int .i64 d] 35)).alloc (.cells #[.int .i64 e, .int .i64 f] 35)) p len cap zs := by
    rcases hr with h | ⟨x, h1, h2, h3, h4, h5, h6⟩
    · exact .inl h
    · exact .inr ⟨x, h1, h2, h3, h4, fun i hi => cell_low (h5 i hi) (boxed3 _ _ _ _), h6⟩
  have T0 := tape_new hr2 hl 53
  have hI0 : RndI w a b c d e f ((((w.alloc (.cells #[.int .i64 a, .int .i64 b] 35)).alloc (.cells #[.int .i64 c, .int .i64 d] 35)).alloc (.cells #[.int .i64 e, .int .i64 f] 35)).alloc (.cells #[.slice p len cap, .int .i64 0] 53)) :=
    ⟨⟨by simpa using T0, (boxed3 _ _ _ _).alloc (by simp <;> omega) _, by omega⟩, ⟨by go_simp, by go_simp, by go_simp, by go_simp⟩, ⟨by go_simp, by go_simp, by go_simp, by go_simp⟩, ⟨by go_simp, by go_simp, by go_simp, by go_simp⟩⟩
  have HI := Lib.hid hI0
  clear hr hr2 T0 hI0
  go_enter Try.func4, Try.ntmps4
  go_wp2_with (go_at_call 11; refine (gnew_any _ _ _ _).mono ?_; rintro e' w' ⟨rfl, rfl⟩)
  go_loopw [12] (fun i wr => ∃ k : Nat, k ≤ 6 ∧ i = .int .i64 k ∧ RndI w a b c d e f wr) (fun i _ => (6 - RowKit.intOf i).toNat)
  case atStart => exact ⟨0, by omega, rfl, HI.out⟩
  case round =>
    clear HI
    obtain ⟨k, hk, rfl, hI⟩ := hrel
    have I0 := Lib.hid hI
    clear hI
    by_cases h : k < 6
    · go_wp2_with fail
      refine (step_any (w.heap.size + 1 + 1 + 1) _ I0.out.kept.tape).mono ?_
      rintro e1 w1 ⟨s1, s2, _, _, rfl, T1, O1⟩
      have I1 := Lib.hid (I0.out.only T1 O1)
      obtain ⟨⟨b1, b2⟩, b3, b4⟩ := newT_bd s1 s2
      clear T1 O1 I0
      go_wp2_with fail
      refine (next_any (w.heap.size + 1 + 1 + 1) 8 (by omega) (by omega) _ (I1.out.alloc _).kept.tape).mono ?_
      rintro e2 w2 ⟨v2, rfl, x2, y2, T2, O2⟩
      have L2 : w.heap.size + 1 + 1 + 1 < w1.heap.size := I1.out.kept.tape.lt
      have I2 := Lib.hid ((I1.out.alloc (.cells #[.int .i64 (newT s1 s2).1, .int .i64 (newT s1 s2).2.1] 35)).only T2 O2)
      have R2 := Lib.hid ((Res.new w1 (newT s1 s2).1 (newT s1 s2).2.1 35).only (by omega) O2)
      clear T2 O2 I1
      by_cases h7 : v2 = 7
      · subst h7
        go_wp2_with fail
        refine (frac_any (w.heap.size + 1 + 1 + 1) _ I2.out.kept.tape).mono ?_
        rintro e3 w3 ⟨n3, d3, rfl, p1, p2, p3, p4, T3, O3⟩
        have I3 := Lib.hid (I2.out.only T3 O3)
        have R3 := R2.out.only (by omega) O3
        have F0 : Res ((w3.setCell ⟨w1.heap.size, 0, none⟩ (.int .i64 n3)).setCell ⟨w1.heap.size, 1, none⟩ (.int .i64 d3)) w1.heap.size n3 d3 := by
          obtain ⟨r0, r1, r2, r3⟩ := R3
          exact ⟨by go_simp, by go_simp, by go_simp, by go_simp⟩
        have I4 := Lib.hid ((I3.out.far (p := ⟨w1.heap.size, 0, none⟩) L2 (.int .i64 n3)).far (p := ⟨w1.heap.size, 1, none⟩) L2 (.int .i64 d3))
        have HF := Lib.hid F0
        obtain ⟨r0, r1, r2, r3⟩ := R3
        clear T3 O3 I2 R2 F0 I3
        go_wp2_with fail
        clear r0 r1 r2 r3
        generalize ((w3.setCell ⟨w1.heap.size, 0, none⟩ (.int .i64 n3)).setCell ⟨w1.heap.size, 1, none⟩ (.int .i64 d3)) = W at *
        obtain ⟨HR0, HR1, _, _⟩ := HF.out
        have HRI := I4.out.drew
        go_region_held3 (fun w' => w'.cell? ⟨w1.heap.size, 0, none⟩ = some (.int .i64 (n3)) ∧ w'.cell? ⟨w1.heap.size, 1, none⟩ = some (.int .i64 (d3)) ∧ RndI w a b c d e f w') (first | exact ⟨k0, k1, kI⟩ | exact ⟨HR0, HR1, HRI⟩) (first | (go_at_call 19; go_split_ands; refine (frac_any (w.heap.size + 1 + 1 + 1) _ (RndI.kept (by assumption)).tape).mono ?_; rintro e wv ⟨nn, dd, rfl, pp1, pp2, pp3, pp4, TT, OO⟩; (have k0 := OO.cell (p := ⟨w1.heap.size, 0, none⟩) (v := .int .i64 (n3)) (by assumption) (by show w1.heap.size ≠ w.heap.size + 1 + 1 + 1; omega)); (have k1 := OO.cell (p := ⟨w1.heap.size, 1, none⟩) (v := .int .i64 (d3)) (by assumption) (by show w1.heap.size ≠ w.heap.size + 1 + 1 + 1; omega)); (have kI : RndI w a b c d e f wv := RndI.only (by assumption) TT OO)) | (go_at_call 14; go_split_ands; refine (next_any (w.heap.size + 1 + 1 + 1) 9 (by omega) (by omega) _ (RndI.kept (by assumption)).tape).mono ?_; rintro e wv ⟨vv, rfl, qq1, qq2, TT, OO⟩; (have k0 := OO.cell (p := ⟨w1.heap.size, 0, none⟩) (v := .int .i64 (n3)) (by assumption) (by show w1.heap.size ≠ w.heap.size + 1 + 1 + 1; omega)); (have k1 := OO.cell (p := ⟨w1.heap.size, 1, none⟩) (v := .int .i64 (d3)) (by assumption) (by show w1.heap.size ≠ w.heap.size + 1 + 1 + 1; omega)); (have kI : RndI w a b c d e f wv := RndI.only (by assumption) TT OO)) | (go_at_call 20; go_split_ands; refine (rounds_at _ _ _ _ _ _ _ _ ?_).mono ?_; (rw [IntWalk.i64_in (vv - 1) (by omega)]; omega); rintro e wv ⟨rfl, hwv⟩; (have k0 := cell_low (p := ⟨w1.heap.size, 0, none⟩) (v := .int .i64 (n3)) (by assumption) hwv); (have k1 := cell_low (p := ⟨w1.heap.size, 1, none⟩) (v := .int .i64 (d3)) (by assumption) hwv); (have kI : RndI w a b c d e f wv := RndI.more (by assumption) hwv)))
        go_split_ands
        go_wp2_with fail
        exact ⟨⟨k + 1, by omega, by go_num, kI⟩, by simp [RowKit.intOf]; omega⟩
      · have h7' : (v2 == 7) = false := by simp [h7]
        clear h7
        go_wp2_with fail
        obtain ⟨HR0, HR1, _, _⟩ := R2.out
        have HRI := I2.out.drew
        go_region_held3 (fun w' => w'.cell? ⟨w1.heap.size, 0, none⟩ = some (.int .i64 ((newT s1 s2).1)) ∧ w'.cell? ⟨w1.heap.size, 1, none⟩ = some (.int .i64 ((newT s1 s2).2.1)) ∧ RndI w a b c d e f w') (first | exact ⟨k0, k1, kI⟩ | exact ⟨HR0, HR1, HRI⟩) (first | (go_at_call 19; go_split_ands; refine (frac_any (w.heap.size + 1 + 1 + 1) _ (RndI.kept (by assumption)).tape).mono ?_; rintro e wv ⟨nn, dd, rfl, pp1, pp2, pp3, pp4, TT, OO⟩; (have k0 := OO.cell (p := ⟨w1.heap.size, 0, none⟩) (v := .int .i64 ((newT s1 s2).1)) (by assumption) (by show w1.heap.size ≠ w.heap.size + 1 + 1 + 1; omega)); (have k1 := OO.cell (p := ⟨w1.heap.size, 1, none⟩) (v := .int .i64 ((newT s1 s2).2.1)) (by assumption) (by show w1.heap.size ≠ w.heap.size + 1 + 1 + 1; omega)); (have kI : RndI w a b c d e f wv := RndI.only (by assumption) TT OO)) | (go_at_call 14; go_split_ands; refine (next_any (w.heap.size + 1 + 1 + 1) 9 (by omega) (by omega) _ (RndI.kept (by assumption)).tape).mono ?_; rintro e wv ⟨vv, rfl, qq1, qq2, TT, OO⟩; (have k0 := OO.cell (p := ⟨w1.heap.size, 0, none⟩) (v := .int .i64 ((newT s1 s2).1)) (by assumption) (by show w1.heap.size ≠ w.heap.size + 1 + 1 + 1; omega)); (have k1 := OO.cell (p := ⟨w1.heap.size, 1, none⟩) (v := .int .i64 ((newT s1 s2).2.1)) (by assumption) (by show w1.heap.size ≠ w.heap.size + 1 + 1 + 1; omega)); (have kI : RndI w a b c d e f wv := RndI.only (by assumption) TT OO)) | (go_at_call 20; go_split_ands; refine (rounds_at _ _ _ _ _ _ _ _ ?_).mono ?_; (rw [IntWalk.i64_in (vv - 1) (by omega)]; omega); rintro e wv ⟨rfl, hwv⟩; (have k0 := cell_low (p := ⟨w1.heap.size, 0, none⟩) (v := .int .i64 ((newT s1 s2).1)) (by assumption) hwv); (have k1 := cell_low (p := ⟨w1.heap.size, 1, none⟩) (v := .int .i64 ((newT s1 s2).2.1)) (by assumption) hwv); (have kI : RndI w a b c d e f wv := RndI.more (by assumption) hwv)))
        go_split_ands
        go_wp2_with fail
        exact ⟨⟨k + 1, by omega, by go_num, kI⟩, by simp [RowKit.intOf]; omega⟩
    · obtain rfl : k = 6 := by omega
      obtain ⟨X0, X1, _, _⟩ := I0.out.x
      obtain ⟨Y0, Y1, _, _⟩ := I0.out.y
      obtain ⟨Z0, Z1, _, _⟩ := I0.out.z
      have HB := I0.out.drew.kept.below
      have t0 := modT_lo m 7 (by omega)
      have t1 := modT_hi m 7 (by omega)
      clear I0
      go_wp2_with fail
      go_region_held3 (fun w' => w'.cell? ⟨w.heap.size, 0, none⟩ = some (.int .i64 a) ∧ w'.cell? ⟨w.heap.size, 1, none⟩ = some (.int .i64 b) ∧ w'.cell? ⟨w.heap.size + 1, 0, none⟩ = some (.int .i64 c) ∧ w'.cell? ⟨w.heap.size + 1, 1, none⟩ = some (.int .i64 d) ∧ w'.cell? ⟨w.heap.size + 1 + 1, 0, none⟩ = some (.int .i64 e) ∧ w'.cell? ⟨w.heap.size + 1 + 1, 1, none⟩ = some (.int .i64 f) ∧ Below w.heap.size w w') (first | exact ⟨k0, k1, k2, k3, k4, k5, kB⟩ | exact ⟨X0, X1, Y0, Y1, Z0, Z1, HB⟩ | (go_split_ands; refine ⟨?_, ?_, ?_, ?_, ?_, ?_, ?_⟩ <;> assumption)) (first | (go_at_call 20; go_split_ands; refine (rounds_at _ _ _ _ _ _ _ _ ?_).mono ?_; (omega); rintro e wv ⟨rfl, hwv⟩; (have k0 := cell_low (p := ⟨w.heap.size, 0, none⟩) (v := .int .i64 a) (by assumption) hwv); (have k1 := cell_low (p := ⟨w.heap.size, 1, none⟩) (v := .int .i64 b) (by assumption) hwv); (have k2 := cell_low (p := ⟨w.heap.size + 1, 0, none⟩) (v := .int .i64 c) (by assumption) hwv); (have k3 := cell_low (p := ⟨w.heap.size + 1, 1, none⟩) (v := .int .i64 d) (by assumption) hwv); (have k4 := cell_low (p := ⟨w.heap.size + 1 + 1, 0, none⟩) (v := .int .i64 e) (by assumption) hwv); (have k5 := cell_low (p := ⟨w.heap.size + 1 + 1, 1, none⟩) (v := .int .i64 f) (by assumption) hwv); (have kB : Below w.heap.size w wv := Below.trans (by assumption) (hwv.mono (Below.size (by assumption))))) | (go_at_call 21; go_split_ands; refine (one_any _).mono ?_; rintro e wv ⟨rfl, hwv⟩; (have k0 := cell_low (p := ⟨w.heap.size, 0, none⟩) (v := .int .i64 a) (by assumption) hwv); (have k1 := cell_low (p := ⟨w.heap.size, 1, none⟩) (v := .int .i64 b) (by assumption) hwv); (have k2 := cell_low (p := ⟨w.heap.size + 1, 0, none⟩) (v := .int .i64 c) (by assumption) hwv); (have k3 := cell_low (p := ⟨w.heap.size + 1, 1, none⟩) (v := .int .i64 d) (by assumption) hwv); (have k4 := cell_low (p := ⟨w.heap.size + 1 + 1, 0, none⟩) (v := .int .i64 e) (by assumption) hwv); (have k5 := cell_low (p := ⟨w.heap.size + 1 + 1, 1, none⟩) (v := .int .i64 f) (by assumption) hwv); (have kB : Below w.heap.size w wv := Below.trans (by assumption) (hwv.mono (Below.size (by assumption))))) | (go_at_call 17; go_split_ands; refine (sane_any _).mono ?_; rintro e wv ⟨rfl, hwv⟩; (have k0 := cell_low (p := ⟨w.heap.size, 0, none⟩) (v := .int .i64 a) (by assumption) hwv); (have k1 := cell_low (p := ⟨w.heap.size, 1, none⟩) (v := .int .i64 b) (by assumption) hwv); (have k2 := cell_low (p := ⟨w.heap.size + 1, 0, none⟩) (v := .int .i64 c) (by assumption) hwv); (have k3 := cell_low (p := ⟨w.heap.size + 1, 1, none⟩) (v := .int .i64 d) (by assumption) hwv); (have k4 := cell_low (p := ⟨w.heap.size + 1 + 1, 0, none⟩) (v := .int .i64 e) (by assumption) hwv); (have k5 := cell_low (p := ⟨w.heap.size + 1 + 1, 1, none⟩) (v := .int .i64 f) (by assumption) hwv); (have kB : Below w.heap.size w wv := Below.trans (by assumption) (hwv.mono (Below.size (by assumption))))) | (go_at_call 12; go_split_ands; refine (mod_any m 7 hm0 hm1 (by omega) (by omega) _).mono ?_; rintro e wv ⟨rfl, rfl⟩))
      go_split_ands
      go_wp2_with fail
      go_ret
      exact ⟨by simp, by assumption⟩
end Go.Proofs.Ytnkpbkebbfelfaa
