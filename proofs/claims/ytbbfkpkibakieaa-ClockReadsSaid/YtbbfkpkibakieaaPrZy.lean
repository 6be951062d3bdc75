/-
  Layer 4 (clock): the comparison of the program with the reference returns true at any zone, instant, local minute and day. Conditions: the zone's changes lie in their cells; the numbers fit their kinds.
-/
import Derived.Test.YtbbfkpkibakieaaPrZx
import Derived.Test.YtbbfkpkibakieaaPrLawIns
import Derived.Deep.RegionHeld3
namespace Go.Proofs.Ytbbfkpkibakieaa
open Go Go.RowKit Go.Lib

theorem iV_len (off : Int) (cs : List (Int × Int)) (l : Int) : (iV off cs l).length ≤ 65 := by
  unfold iV
  split
  · rw [List.length_reverse]; exact Nat.le_trans (iL_length _ _) (spL_len (by assumption))
  · simp
set_option maxRecDepth 100000 in
set_option maxHeartbeats 8000000 in
theorem reads_any (off : Int) (a : Option Addr) (n cap : Nat) (cs : List (Int × Int)) (t l d : Int) (hn : n ≤ 9223372036854775807) (l0 : -9223372036854775808 ≤ l) (l1 : l ≤ 9223372036854775807) (w : World) (hr : ChRow w w.heap.size a n cs) :
    Calls Try.prog 11 #[.agg #[.int .i64 off, .slice a n cap], .int .i64 t, .int .i64 l, .int .i64 d] w (RetB true w) := by
  have R0 := RZ.new (off := off) (cap := cap) hr
  have C1 := Lib.hid (offset_any off a n cap cs t hn)
  have C2 := Lib.hid (roffset_any off a n cap cs t hn)
  have C3 := Lib.hid (local_any off a n cap cs t hn)
  have C4 := Lib.hid (rlocal_any off a n cap cs t hn)
  have C5 := Lib.hid (instants_any off a n cap cs l hn)
  have C6 := Lib.hid (rins_any off a n cap cs l hn)
  have C7 := Lib.hid (valid_any off a n cap cs hn)
  have C8 := Lib.hid (rvalid_any off a n cap cs hn)
  have C9 := Lib.hid (first_any off a n cap cs l hn)
  have C10 := Lib.hid (rFirst_any off a n cap cs l hn l0 l1)
  have C11 := Lib.hid (begin_any off a n cap cs d hn)
  have C12 := Lib.hid (rBegin_any off a n cap cs d hn)
  have C13 := Lib.hid (day_any off a n cap cs t hn)
  have C14 := Lib.hid (rDay_any off a n cap cs t hn)
  have hx65 := iV_len off cs l
  generalize oV off cs t = ov at *
  generalize lV off cs t = lv at *
  generalize dV off cs t = dv at *
  generalize vAE off cs t = ve at *
  generalize iV off cs l = xs at *
  generalize f1V off cs l = fv at *
  generalize bV off cs d = bv at *
  generalize bE off cs d = be at *
  generalize vE off cs = vv at *
  clear hr
  go_enter Try.func11, Try.ntmps11
  have z0 := R0.box.c0
  have z1 := R0.box.c1
  go_wp2_with fail
  refine (C1.out _ R0.row).mono ?_
  rintro e w1 ⟨rfl, hw1⟩
  have R1 := R0.step hw1
  clear z0 z1 R0
  have z0 := R1.box.c0
  have z1 := R1.box.c1
  go_wp2_with fail
  refine (C2.out _ R1.row).mono ?_
  rintro e w2 ⟨rfl, hw2⟩
  have R2 := R1.step hw2
  clear z0 z1 R1
  have z0 := R2.box.c0
  have z1 := R2.box.c1
  go_wp2_with fail
  refine (C3.out _ R2.row).mono ?_
  rintro e w3 ⟨rfl, hw3⟩
  have R3 := R2.step hw3
  clear z0 z1 R2
  have z0 := R3.box.c0
  have z1 := R3.box.c1
  go_wp2_with fail
  refine (C4.out _ R3.row).mono ?_
  rintro e w4 ⟨rfl, hw4⟩
  have R4 := R3.step hw4
  clear z0 z1 R3
  have z0 := R4.box.c0
  have z1 := R4.box.c1
  go_wp2_with fail
  refine (C5.out _ R4.row).mono ?_
  rintro e w5 ⟨v5, rfl, o5, hw5⟩
  have X5 := ints_own o5
  have R5 := R4.step hw5
  clear z0 z1 R4 o5
  have z0 := R5.box.c0
  have z1 := R5.box.c1
  go_wp2_with fail
  refine (C6.out _ R5.row).mono ?_
  rintro e w6 ⟨v6, rfl, o6, hw6⟩
  have X6 := cells_of (ints_own o6)
  replace X5 := cells_of (X5.below hw6)
  have R6 := R5.step hw6
  clear z0 z1 R5 o6 hw1 hw2 hw3 hw4 hw5 hw6
  have z0 := R6.box.c0
  have z1 := R6.box.c1
  rcases X5 with ⟨ex, xa, xc, rfl⟩ | ⟨x, xc, rfl, xs0, X5⟩
  · rcases X6 with ⟨_, ya, yc, rfl⟩ | ⟨y, yc, rfl, ys0, X6⟩
    · clear ex
      go_wp2_with fail
      go_region_held3 (fun w' => w'.cell? ⟨w.heap.size, 0, none⟩ = some (.int .i64 off) ∧ w'.cell? ⟨w.heap.size, 1, none⟩ = some (.slice a n cap))
        (first | exact ⟨R8.box.c0, R8.box.c1⟩ | exact ⟨R7.box.c0, R7.box.c1⟩ | go_keep)
        (first
          | (go_at_call 10; refine (C7.out _ (R6.step (Below.drew (Below.refl _ _))).row).mono ?_; rintro e w7 ⟨rfl, hw7⟩; have R7 := (R6.step (Below.drew (Below.refl _ _))).step hw7; have D7 : Hid (Below w6.heap.size w6 w7) := Lib.hid ((Below.drew (Below.refl _ _)).trans hw7))
          | (go_at_call 30; refine (C8.out _ R7.row).mono ?_; rintro e w8 ⟨rfl, hw8⟩; have R8 := R7.step hw8; have D8 : Hid (Below w6.heap.size w6 w8) := Lib.hid (D7.out.trans (hw8.mono D7.out.size))))
      clear z0 z1 R7 R6

      go_wp2_with fail
      go_loopw [21] (fun iv wr => iv = .int .i64 0 ∧ Hid (RZ w off a n cap cs wr)) (fun _ _ => 0)
      case atStart => exact ⟨rfl, Lib.hid R8⟩
      case round =>
        obtain ⟨rfl, HR⟩ := hrel
        clear R8
        have R9 := HR.out
        clear HR D7 D8
        have z0 := R9.box.c0
        have z1 := R9.box.c1
        go_wp2_with fail
        refine (C9.out _ R9.row).mono ?_
        rintro e w10 ⟨rfl, hw10⟩
        have R10 := R9.step hw10
        clear z0 z1 R9
        have z0 := R10.box.c0
        have z1 := R10.box.c1
        go_wp2_with fail
        refine (C10.out _ R10.row).mono ?_
        rintro e w11 ⟨rfl, hw11⟩
        have R11 := R10.step hw11
        clear z0 z1 R10
        have z0 := R11.box.c0
        have z1 := R11.box.c1
        go_wp2_with fail
        refine (C11.out _ R11.row).mono ?_
        rintro e w12 ⟨rfl, hw12⟩
        have R12 := R11.step hw12
        clear z0 z1 R11
        have z0 := R12.box.c0
        have z1 := R12.box.c1
        go_wp2_with fail
        refine (C12.out _ R12.row).mono ?_
        rintro e w13 ⟨rfl, hw13⟩
        have R13 := R12.step hw13
        clear z0 z1 R12
        have z0 := R13.box.c0
        have z1 := R13.box.c1
        go_wp2_with fail
        refine (C13.out _ R13.row).mono ?_
        rintro e w14 ⟨rfl, hw14⟩
        have R14 := R13.step hw14
        clear z0 z1 R13
        have z0 := R14.box.c0
        have z1 := R14.box.c1
        go_wp2_with fail
        refine (C14.out _ R14.row).mono ?_
        rintro e w15 ⟨rfl, hw15⟩
        have R15 := R14.step hw15
        clear z0 z1 R14
        go_wp2
        go_ret
        exact ⟨rfl, R15.below⟩

    · rw [ex] at ys0; exact absurd ys0 (by simp)
  · rcases X6 with ⟨ey, ya, yc, rfl⟩ | ⟨y, yc, rfl, ys0, X6⟩
    · rw [ey] at xs0; exact absurd xs0 (by simp)
    · have hX5 := Lib.hid X5
      have hX6 := Lib.hid X6
      have hxl : xs.length ≤ 9223372036854775807 := by omega
      clear hx65
      clear X5 X6 ys0
      go_wp2_with fail
      go_region_held3 (fun w' => w'.cell? ⟨w.heap.size, 0, none⟩ = some (.int .i64 off) ∧ w'.cell? ⟨w.heap.size, 1, none⟩ = some (.slice a n cap))
        (first | exact ⟨R8.box.c0, R8.box.c1⟩ | exact ⟨R7.box.c0, R7.box.c1⟩ | go_keep)
        (first
          | (go_at_call 10; refine (C7.out _ (R6.step (Below.drew (Below.refl _ _))).row).mono ?_; rintro e w7 ⟨rfl, hw7⟩; have R7 := (R6.step (Below.drew (Below.refl _ _))).step hw7; have D7 : Hid (Below w6.heap.size w6 w7) := Lib.hid ((Below.drew (Below.refl _ _)).trans hw7))
          | (go_at_call 30; refine (C8.out _ R7.row).mono ?_; rintro e w8 ⟨rfl, hw8⟩; have R8 := R7.step hw8; have D8 : Hid (Below w6.heap.size w6 w8) := Lib.hid (D7.out.trans (hw8.mono D7.out.size))))
      clear z0 z1 R7 R6

      have hX7 := Lib.hid (hX5.out.below D8.out)
      have hX8 := Lib.hid (hX6.out.below D8.out)
      clear hX5 hX6 D7 D8
      go_wp2_with fail
      go_loopw [21] (fun iv wr => ∃ k : Nat, k ≤ xs.length ∧ iv = .int .i64 k ∧ Hid (RZ w off a n cap cs wr) ∧ Hid (Cells wr x xs) ∧ Hid (Cells wr y xs)) (fun iv _ => xs.length - (Go.RowKit.intOf iv).toNat)
      case atStart => exact ⟨0, Nat.zero_le _, rfl, Lib.hid R8, hX7, hX8⟩
      case round =>
        obtain ⟨k, hk, rfl, HR, HX, HY⟩ := hrel
        clear R8 hX7 hX8
        by_cases hlt : k < xs.length
        · have cx := HX.out.cell k hlt
          have cy := HY.out.cell k hlt
          have g1 : (0 : Int) ≤ (k : Int) := by omega
          have g2 : ((k : Int)).toNat = k := by omega
          have g3 : (k : Int) < (xs.length : Int) := by omega
          generalize xs[k] = q at *
          go_wp2_with fail
          go_quiet (fail)
          clear g1 g2 g3 cx cy
          go_wp2_with fail
          go_roundw
          case rel => exact ⟨k + 1, by omega, by go_num, Lib.hid (HR.out.drewN _), Lib.hid (HX.out.below (below_drewN (Below.refl _ _) _)), Lib.hid (HY.out.below (below_drewN (Below.refl _ _) _))⟩
          case measure => simp [Go.RowKit.intOf]; omega
        · obtain rfl : k = xs.length := by omega
          have R9 := HR.out
          clear HR HX HY hlt
          have z0 := R9.box.c0
          have z1 := R9.box.c1
          go_wp2_with fail
          refine (C9.out _ R9.row).mono ?_
          rintro e w10 ⟨rfl, hw10⟩
          have R10 := R9.step hw10
          clear z0 z1 R9
          have z0 := R10.box.c0
          have z1 := R10.box.c1
          go_wp2_with fail
          refine (C10.out _ R10.row).mono ?_
          rintro e w11 ⟨rfl, hw11⟩
          have R11 := R10.step hw11
          clear z0 z1 R10
          have z0 := R11.box.c0
          have z1 := R11.box.c1
          go_wp2_with fail
          refine (C11.out _ R11.row).mono ?_
          rintro e w12 ⟨rfl, hw12⟩
          have R12 := R11.step hw12
          clear z0 z1 R11
          have z0 := R12.box.c0
          have z1 := R12.box.c1
          go_wp2_with fail
          refine (C12.out _ R12.row).mono ?_
          rintro e w13 ⟨rfl, hw13⟩
          have R13 := R12.step hw13
          clear z0 z1 R12
          have z0 := R13.box.c0
          have z1 := R13.box.c1
          go_wp2_with fail
          refine (C13.out _ R13.row).mono ?_
          rintro e w14 ⟨rfl, hw14⟩
          have R14 := R13.step hw14
          clear z0 z1 R13
          have z0 := R14.box.c0
          have z1 := R14.box.c1
          go_wp2_with fail
          refine (C14.out _ R14.row).mono ?_
          rintro e w15 ⟨rfl, hw15⟩
          have R15 := R14.step hw15
          clear z0 z1 R14
          go_wp2
          go_ret
          exact ⟨rfl, R15.below⟩

end Go.Proofs.Ytbbfkpkibakieaa
