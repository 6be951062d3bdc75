/-
  Layer 5 (period): the law's divides answers true. Conditions: the cuts and the holidays lie in memory; the table of month lengths reads as the program's text lays it.
-/
import Derived.Test.YtmgglcfndhfceaaGreatDoorPrYn
namespace Go.Proofs.YtmgglcfndhfceaaGreatDoor.Per
open Go Go.RowKit Go.Lib Go.Sort Go.Shelf Go.Proofs Go.Proofs.YtmgglcfndhfceaaGreatDoor Go.Proofs.YtmgglcfndhfceaaGreatDoor.Cal Go.Proofs.YtmgglcfndhfceaaGreatDoor.Mg
set_option linter.unusedVariables false

set_option maxRecDepth 100000 in
set_option maxHeartbeats 4000000 in
theorem dvs_err (A k a n mt : Int) (ca : Option Addr) (cn ccap : Nat) (g : Nat → Int) (ha : Option Addr) (hn hcap : Nat) (hs : List Hol) (c : Int) (HW : BwE c k a n mt ca cn ccap g ha hn hcap hs) (HP : BpE c k a n mt ca cn ccap g ha hn hcap hs) (HD : BdE A c k a n mt ca cn ccap g ha hn hcap hs) (w : World) (cx : Cx ca cn g ha hn hs w) :
    Calls Tryz.prog 11 #[.int .i64 A, .agg #[.int .i64 k, .int .i64 a], .int .i64 n, .slice ca cn ccap, .int .i64 mt, .slice ha hn hcap] w (RetV (.bool true) w) := by
  have CX := Lib.hid cx
  have CW := Lib.hid HW
  have CP := Lib.hid HP
  have CD := Lib.hid HD
  have hB := (Below.refl w.heap.size w).alloc (Nat.le_refl _) (.cells #[.int .i64 k, .int .i64 a] 27)
  have BX := Box2.new w 27 k a
  have z0 := BX.c0
  have z1 := BX.c1
  clear cx HW HP HD
  go_enter Tryz.func11, Tryz.ntmps11
  go_wp2_with fail
  refine ((CW.out _ (CX.out.below hB)).1).mono ?_
  rintro e w1 ⟨rfl, hw1⟩
  have hB := hB.trans (hw1.mono hB.size)
  have BX := BX.step hw1
  clear z0 z1
  have z0 := BX.c0
  have z1 := BX.c1
  clear hw1
  go_wp2_with fail
  refine ((CW.out _ (CX.out.below hB)).2).mono ?_
  rintro e w2 ⟨rfl, hw2⟩
  have hB := hB.trans (hw2.mono hB.size)
  have BX := BX.step hw2
  clear z0 z1
  have z0 := BX.c0
  have z1 := BX.c1
  clear hw2
  go_wp2_with fail
  refine ((CP.out _ (CX.out.below hB)).1).mono ?_
  rintro e w3 ⟨rfl, hw3⟩
  have hB := hB.trans (hw3.mono hB.size)
  have BX := BX.step hw3
  clear z0 z1
  have z0 := BX.c0
  have z1 := BX.c1
  clear hw3
  go_wp2_with fail
  refine ((CP.out _ (CX.out.below hB)).2).mono ?_
  rintro e w4 ⟨rfl, hw4⟩
  have hB := hB.trans (hw4.mono hB.size)
  have BX := BX.step hw4
  clear z0 z1
  have z0 := BX.c0
  have z1 := BX.c1
  clear hw4
  go_wp2_with fail
  refine ((CD.out _ (CX.out.below hB)).1).mono ?_
  rintro e w5 ⟨rfl, hw5⟩
  have hB := hB.trans (hw5.mono hB.size)
  have BX := BX.step hw5
  clear z0 z1
  have z0 := BX.c0
  have z1 := BX.c1
  clear hw5
  go_wp2_with fail
  refine ((CD.out _ (CX.out.below hB)).2).mono ?_
  rintro e w6 ⟨rfl, hw6⟩
  have hB := hB.trans (hw6.mono hB.size)
  have BX := BX.step hw6
  clear z0 z1
  have z0 := BX.c0
  have z1 := BX.c1
  clear hw6
  have HE := Lib.hid hB
  clear hB BX z0 z1
  go_wp2_with fail
  go_loopw [25] (fun z wr => z = .int .i64 0 ∧ wr = w6) (fun z _ => 0)
  case atStart => exact ⟨rfl, rfl⟩
  case round =>
    obtain ⟨rfl, rfl⟩ := hrel
    go_wp2_with fail
    go_ret
    exact ⟨rfl, HE.out⟩
set_option maxRecDepth 100000 in
set_option maxHeartbeats 4000000 in
theorem dvs_zero (A k a n mt : Int) (ca : Option Addr) (cn ccap : Nat) (g : Nat → Int) (ha : Option Addr) (hn hcap : Nat) (hs : List Hol) (c c2 : Int) (f : Nat → Int) (hcn : cn ≤ 1000) (HW : BwR f k a n mt ca cn ccap g ha hn hcap hs) (HP : BpE c k a n mt ca cn ccap g ha hn hcap hs) (HD : BdE A c2 k a n mt ca cn ccap g ha hn hcap hs) (w : World) (cx : Cx ca cn g ha hn hs w) :
    Calls Tryz.prog 11 #[.int .i64 A, .agg #[.int .i64 k, .int .i64 a], .int .i64 n, .slice ca cn ccap, .int .i64 mt, .slice ha hn hcap] w (RetV (.bool true) w) := by
  have CX := Lib.hid cx
  have CW := Lib.hid HW
  have CP := Lib.hid HP
  have CD := Lib.hid HD
  have hB := (Below.refl w.heap.size w).alloc (Nat.le_refl _) (.cells #[.int .i64 k, .int .i64 a] 27)
  have BX := Box2.new w 27 k a
  have z0 := BX.c0
  have z1 := BX.c1
  clear cx HW HP HD
  go_enter Tryz.func11, Tryz.ntmps11
  go_wp2_with fail
  refine ((CW.out _ (CX.out.below hB)).1).mono ?_
  rintro e w1 ⟨p1, q1, rfl, _, l1, hr1, hw1⟩
  have hB := hB.trans (hw1.mono hB.size)
  have BX := BX.step hw1
  clear z0 z1
  have z0 := BX.c0
  have z1 := BX.c1
  clear hw1
  go_wp2_with fail
  refine ((CW.out _ (CX.out.below hB)).2).mono ?_
  rintro e w2 ⟨p2, q2, rfl, _, l2, hr2, hw2⟩
  have hB := hB.trans (hw2.mono hB.size)
  have BX := BX.step hw2
  clear z0 z1
  have z0 := BX.c0
  have z1 := BX.c1
  have hr1 := fun i (hi : i ≤ cn) => (hw2.cell (p := ⟨p1, i, none⟩) l1).trans (hr1 i hi)
  have l1 := Nat.lt_of_lt_of_le l1 hw2.size
  clear hw2
  go_wp2_with fail
  refine ((CP.out _ (CX.out.below hB)).1).mono ?_
  rintro e w3 ⟨rfl, hw3⟩
  have hB := hB.trans (hw3.mono hB.size)
  have BX := BX.step hw3
  clear z0 z1
  have z0 := BX.c0
  have z1 := BX.c1
  have hr1 := fun i (hi : i ≤ cn) => (hw3.cell (p := ⟨p1, i, none⟩) l1).trans (hr1 i hi)
  have l1 := Nat.lt_of_lt_of_le l1 hw3.size
  have hr2 := fun i (hi : i ≤ cn) => (hw3.cell (p := ⟨p2, i, none⟩) l2).trans (hr2 i hi)
  have l2 := Nat.lt_of_lt_of_le l2 hw3.size
  clear hw3
  go_wp2_with fail
  refine ((CP.out _ (CX.out.below hB)).2).mono ?_
  rintro e w4 ⟨rfl, hw4⟩
  have hB := hB.trans (hw4.mono hB.size)
  have BX := BX.step hw4
  clear z0 z1
  have z0 := BX.c0
  have z1 := BX.c1
  have hr1 := fun i (hi : i ≤ cn) => (hw4.cell (p := ⟨p1, i, none⟩) l1).trans (hr1 i hi)
  have l1 := Nat.lt_of_lt_of_le l1 hw4.size
  have hr2 := fun i (hi : i ≤ cn) => (hw4.cell (p := ⟨p2, i, none⟩) l2).trans (hr2 i hi)
  have l2 := Nat.lt_of_lt_of_le l2 hw4.size
  clear hw4
  go_wp2_with fail
  refine ((CD.out _ (CX.out.below hB)).1).mono ?_
  rintro e w5 ⟨rfl, hw5⟩
  have hB := hB.trans (hw5.mono hB.size)
  have BX := BX.step hw5
  clear z0 z1
  have z0 := BX.c0
  have z1 := BX.c1
  have hr1 := fun i (hi : i ≤ cn) => (hw5.cell (p := ⟨p1, i, none⟩) l1).trans (hr1 i hi)
  have l1 := Nat.lt_of_lt_of_le l1 hw5.size
  have hr2 := fun i (hi : i ≤ cn) => (hw5.cell (p := ⟨p2, i, none⟩) l2).trans (hr2 i hi)
  have l2 := Nat.lt_of_lt_of_le l2 hw5.size
  clear hw5
  go_wp2_with fail
  refine ((CD.out _ (CX.out.below hB)).2).mono ?_
  rintro e w6 ⟨rfl, hw6⟩
  have hB := hB.trans (hw6.mono hB.size)
  have BX := BX.step hw6
  clear z0 z1
  have z0 := BX.c0
  have z1 := BX.c1
  have hr1 := fun i (hi : i ≤ cn) => (hw6.cell (p := ⟨p1, i, none⟩) l1).trans (hr1 i hi)
  have l1 := Nat.lt_of_lt_of_le l1 hw6.size
  have hr2 := fun i (hi : i ≤ cn) => (hw6.cell (p := ⟨p2, i, none⟩) l2).trans (hr2 i hi)
  have l2 := Nat.lt_of_lt_of_le l2 hw6.size
  clear hw6
  have R1 := Lib.hid hr1
  clear hr1
  have R2 := Lib.hid hr2
  clear hr2
  have HE := Lib.hid hB
  clear hB BX z0 z1
  go_wp2_with fail
  go_loopw [25] (fun z wr => ∃ i : Nat, i ≤ cn + 1 ∧ z = .int .i64 i ∧ Hid (Below w6.heap.size w6 wr)) (fun z _ => cn + 1 - (intOf z).toNat)
  case atStart => exact ⟨0, by omega, rfl, Lib.hid (Below.refl _ _)⟩
  case round =>
    obtain ⟨i, hi, rfl, HI⟩ := hrel
    by_cases hlt : i < cn + 1
    · have gl : decide ((i : Int) < 0) = false := decide_eq_false (by omega)
      have x1 := (HI.out.cell (p := ⟨p1, i, none⟩) l1).trans (R1.out i (by omega))
      have x2 := (HI.out.cell (p := ⟨p2, i, none⟩) l2).trans (R2.out i (by omega))
      generalize hfi : f i = v at *
      clear hfi
      go_wp2_with fail
      go_quiet (fail)
      have HJ := Lib.hid (HI.out.trans ((below_drewN (Below.refl _ _) nq).mono HI.out.size))
      go_wp2_with fail
      go_roundw
      case rel => exact ⟨i + 1, by omega, by go_num, HJ⟩
      case measure => simp [intOf]; omega
    · obtain rfl : i = cn + 1 := by omega
      go_wp2_with fail
      go_ret
      exact ⟨rfl, HE.out.trans (HI.out.mono HE.out.size)⟩
set_option maxRecDepth 100000 in
set_option maxHeartbeats 4000000 in
theorem dvs_posE (A k a n mt : Int) (ca : Option Addr) (cn ccap : Nat) (g : Nat → Int) (ha : Option Addr) (hn hcap : Nat) (hs : List Hol) (c2 : Int) (f f1 f2 : Nat → Int) (hcn : cn ≤ 1000) (HW : BwR f k a n mt ca cn ccap g ha hn hcap hs) (HP : BpR f1 f2 k a n mt ca cn ccap g ha hn hcap hs) (HD : BdE A c2 k a n mt ca cn ccap g ha hn hcap hs) (w : World) (cx : Cx ca cn g ha hn hs w) :
    Calls Tryz.prog 11 #[.int .i64 A, .agg #[.int .i64 k, .int .i64 a], .int .i64 n, .slice ca cn ccap, .int .i64 mt, .slice ha hn hcap] w (RetV (.bool true) w) := by
  have CX := Lib.hid cx
  have CW := Lib.hid HW
  have CP := Lib.hid HP
  have CD := Lib.hid HD
  have hB := (Below.refl w.heap.size w).alloc (Nat.le_refl _) (.cells #[.int .i64 k, .int .i64 a] 27)
  have BX := Box2.new w 27 k a
  have z0 := BX.c0
  have z1 := BX.c1
  clear cx HW HP HD
  go_enter Tryz.func11, Tryz.ntmps11
  go_wp2_with fail
  refine ((CW.out _ (CX.out.below hB)).1).mono ?_
  rintro e w1 ⟨p1, q1, rfl, _, l1, hr1, hw1⟩
  have hB := hB.trans (hw1.mono hB.size)
  have BX := BX.step hw1
  clear z0 z1
  have z0 := BX.c0
  have z1 := BX.c1
  clear hw1
  go_wp2_with fail
  refine ((CW.out _ (CX.out.below hB)).2).mono ?_
  rintro e w2 ⟨p2, q2, rfl, _, l2, hr2, hw2⟩
  have hB := hB.trans (hw2.mono hB.size)
  have BX := BX.step hw2
  clear z0 z1
  have z0 := BX.c0
  have z1 := BX.c1
  have hr1 := fun i (hi : i ≤ cn) => (hw2.cell (p := ⟨p1, i, none⟩) l1).trans (hr1 i hi)
  have l1 := Nat.lt_of_lt_of_le l1 hw2.size
  clear hw2
  go_wp2_with fail
  refine ((CP.out _ (CX.out.below hB)).1).mono ?_
  rintro e w3 ⟨p3, q3, rfl, _, l3, hr3, hw3⟩
  have hB := hB.trans (hw3.mono hB.size)
  have BX := BX.step hw3
  clear z0 z1
  have z0 := BX.c0
  have z1 := BX.c1
  have hr1 := fun i (hi : i ≤ cn) => (hw3.cell (p := ⟨p1, i, none⟩) l1).trans (hr1 i hi)
  have l1 := Nat.lt_of_lt_of_le l1 hw3.size
  have hr2 := fun i (hi : i ≤ cn) => (hw3.cell (p := ⟨p2, i, none⟩) l2).trans (hr2 i hi)
  have l2 := Nat.lt_of_lt_of_le l2 hw3.size
  clear hw3
  go_wp2_with fail
  refine ((CP.out _ (CX.out.below hB)).2).mono ?_
  rintro e w4 ⟨p4, q4, rfl, _, l4, hr4, hw4⟩
  have hB := hB.trans (hw4.mono hB.size)
  have BX := BX.step hw4
  clear z0 z1
  have z0 := BX.c0
  have z1 := BX.c1
  have hr1 := fun i (hi : i ≤ cn) => (hw4.cell (p := ⟨p1, i, none⟩) l1).trans (hr1 i hi)
  have l1 := Nat.lt_of_lt_of_le l1 hw4.size
  have hr2 := fun i (hi : i ≤ cn) => (hw4.cell (p := ⟨p2, i, none⟩) l2).trans (hr2 i hi)
  have l2 := Nat.lt_of_lt_of_le l2 hw4.size
  have hr3 := fun i (hi : i < cn + 1) => And.intro ((hw4.cell (p := ⟨p3, i * 2, none⟩) l3).trans (hr3 i hi).1) ((hw4.cell (p := ⟨p3, i * 2 + 1, none⟩) l3).trans (hr3 i hi).2)
  have l3 := Nat.lt_of_lt_of_le l3 hw4.size
  clear hw4
  go_wp2_with fail
  refine ((CD.out _ (CX.out.below hB)).1).mono ?_
  rintro e w5 ⟨rfl, hw5⟩
  have hB := hB.trans (hw5.mono hB.size)
  have BX := BX.step hw5
  clear z0 z1
  have z0 := BX.c0
  have z1 := BX.c1
  have hr1 := fun i (hi : i ≤ cn) => (hw5.cell (p := ⟨p1, i, none⟩) l1).trans (hr1 i hi)
  have l1 := Nat.lt_of_lt_of_le l1 hw5.size
  have hr2 := fun i (hi : i ≤ cn) => (hw5.cell (p := ⟨p2, i, none⟩) l2).trans (hr2 i hi)
  have l2 := Nat.lt_of_lt_of_le l2 hw5.size
  have hr3 := fun i (hi : i < cn + 1) => And.intro ((hw5.cell (p := ⟨p3, i * 2, none⟩) l3).trans (hr3 i hi).1) ((hw5.cell (p := ⟨p3, i * 2 + 1, none⟩) l3).trans (hr3 i hi).2)
  have l3 := Nat.lt_of_lt_of_le l3 hw5.size
  have hr4 := fun i (hi : i < cn + 1) => And.intro ((hw5.cell (p := ⟨p4, i * 2, none⟩) l4).trans (hr4 i hi).1) ((hw5.cell (p := ⟨p4, i * 2 + 1, none⟩) l4).trans (hr4 i hi).2)
  have l4 := Nat.lt_of_lt_of_le l4 hw5.size
  clear hw5
  go_wp2_with fail
  refine ((CD.out _ (CX.out.below hB)).2).mono ?_
  rintro e w6 ⟨rfl, hw6⟩
  have hB := hB.trans (hw6.mono hB.size)
  have BX := BX.step hw6
  clear z0 z1
  have z0 := BX.c0
  have z1 := BX.c1
  have hr1 := fun i (hi : i ≤ cn) => (hw6.cell (p := ⟨p1, i, none⟩) l1).trans (hr1 i hi)
  have l1 := Nat.lt_of_lt_of_le l1 hw6.size
  have hr2 := fun i (hi : i ≤ cn) => (hw6.cell (p := ⟨p2, i, none⟩) l2).trans (hr2 i hi)
  have l2 := Nat.lt_of_lt_of_le l2 hw6.size
  have hr3 := fun i (hi : i < cn + 1) => And.intro ((hw6.cell (p := ⟨p3, i * 2, none⟩) l3).trans (hr3 i hi).1) ((hw6.cell (p := ⟨p3, i * 2 + 1, none⟩) l3).trans (hr3 i hi).2)
  have l3 := Nat.lt_of_lt_of_le l3 hw6.size
  have hr4 := fun i (hi : i < cn + 1) => And.intro ((hw6.cell (p := ⟨p4, i * 2, none⟩) l4).trans (hr4 i hi).1) ((hw6.cell (p := ⟨p4, i * 2 + 1, none⟩) l4).trans (hr4 i hi).2)
  have l4 := Nat.lt_of_lt_of_le l4 hw6.size
  clear hw6
  have R1 := Lib.hid hr1
  clear hr1
  have R2 := Lib.hid hr2
  clear hr2
  have R3 := Lib.hid hr3
  clear hr3
  have R4 := Lib.hid hr4
  clear hr4
  have HE := Lib.hid hB
  clear hB BX z0 z1
  go_wp2_with fail
  go_loopw [25] (fun z wr => ∃ i : Nat, i ≤ cn + 1 ∧ z = .int .i64 i ∧ Hid (Below w6.heap.size w6 wr)) (fun z _ => cn + 1 - (intOf z).toNat)
  case atStart => exact ⟨0, by omega, rfl, Lib.hid (Below.refl _ _)⟩
  case round =>
    obtain ⟨i, hi, rfl, HI⟩ := hrel
    by_cases hlt : i < cn + 1
    · have gl : decide ((i : Int) < 0) = false := decide_eq_false (by omega)
      have x1 := (HI.out.cell (p := ⟨p1, i, none⟩) l1).trans (R1.out i (by omega))
      have x2 := (HI.out.cell (p := ⟨p2, i, none⟩) l2).trans (R2.out i (by omega))
      have x3 := (HI.out.cell (p := ⟨p3, i * 2, none⟩) l3).trans (R3.out i (by omega)).1
      have y3 := (HI.out.cell (p := ⟨p3, i * 2 + 1, none⟩) l3).trans (R3.out i (by omega)).2
      have x4 := (HI.out.cell (p := ⟨p4, i * 2, none⟩) l4).trans (R4.out i (by omega)).1
      have y4 := (HI.out.cell (p := ⟨p4, i * 2 + 1, none⟩) l4).trans (R4.out i (by omega)).2
      go_wp2_with fail
      go_quiet (fail)
      have HJ := Lib.hid (HI.out.trans ((below_drewN (Below.refl _ _) nq).mono HI.out.size))
      go_wp2_with fail
      go_roundw
      case rel => exact ⟨i + 1, by omega, by go_num, HJ⟩
      case measure => simp [intOf]; omega
    · obtain rfl : i = cn + 1 := by omega
      go_wp2_with fail
      go_ret
      exact ⟨rfl, HE.out.trans (HI.out.mono HE.out.size)⟩
set_option maxRecDepth 100000 in
set_option maxHeartbeats 4000000 in
theorem dvs_pos (A k a n mt : Int) (ca : Option Addr) (cn ccap : Nat) (g : Nat → Int) (ha : Option Addr) (hn hcap : Nat) (hs : List Hol) (f f1 f2 f3 : Nat → Int) (hcn : cn ≤ 1000) (HW : BwR f k a n mt ca cn ccap g ha hn hcap hs) (HP : BpR f1 f2 k a n mt ca cn ccap g ha hn hcap hs) (HD : BdR A f3 k a n mt ca cn ccap g ha hn hcap hs) (w : World) (cx : Cx ca cn g ha hn hs w) :
    Calls Tryz.prog 11 #[.int .i64 A, .agg #[.int .i64 k, .int .i64 a], .int .i64 n, .slice ca cn ccap, .int .i64 mt, .slice ha hn hcap] w (RetV (.bool true) w) := by
  have CX := Lib.hid cx
  have CW := Lib.hid HW
  have CP := Lib.hid HP
  have CD := Lib.hid HD
  have hB := (Below.refl w.heap.size w).alloc (Nat.le_refl _) (.cells #[.int .i64 k, .int .i64 a] 27)
  have BX := Box2.new w 27 k a
  have z0 := BX.c0
  have z1 := BX.c1
  clear cx HW HP HD
  go_enter Tryz.func11, Tryz.ntmps11
  go_wp2_with fail
  refine ((CW.out _ (CX.out.below hB)).1).mono ?_
  rintro e w1 ⟨p1, q1, rfl, _, l1, hr1, hw1⟩
  have hB := hB.trans (hw1.mono hB.size)
  have BX := BX.step hw1
  clear z0 z1
  have z0 := BX.c0
  have z1 := BX.c1
  clear hw1
  go_wp2_with fail
  refine ((CW.out _ (CX.out.below hB)).2).mono ?_
  rintro e w2 ⟨p2, q2, rfl, _, l2, hr2, hw2⟩
  have hB := hB.trans (hw2.mono hB.size)
  have BX := BX.step hw2
  clear z0 z1
  have z0 := BX.c0
  have z1 := BX.c1
  have hr1 := fun i (hi : i ≤ cn) => (hw2.cell (p := ⟨p1, i, none⟩) l1).trans (hr1 i hi)
  have l1 := Nat.lt_of_lt_of_le l1 hw2.size
  clear hw2
  go_wp2_with fail
  refine ((CP.out _ (CX.out.below hB)).1).mono ?_
  rintro e w3 ⟨p3, q3, rfl, _, l3, hr3, hw3⟩
  have hB := hB.trans (hw3.mono hB.size)
  have BX := BX.step hw3
  clear z0 z1
  have z0 := BX.c0
  have z1 := BX.c1
  have hr1 := fun i (hi : i ≤ cn) => (hw3.cell (p := ⟨p1, i, none⟩) l1).trans (hr1 i hi)
  have l1 := Nat.lt_of_lt_of_le l1 hw3.size
  have hr2 := fun i (hi : i ≤ cn) => (hw3.cell (p := ⟨p2, i, none⟩) l2).trans (hr2 i hi)
  have l2 := Nat.lt_of_lt_of_le l2 hw3.size
  clear hw3
  go_wp2_with fail
  refine ((CP.out _ (CX.out.below hB)).2).mono ?_
  rintro e w4 ⟨p4, q4, rfl, _, l4, hr4, hw4⟩
  have hB := hB.trans (hw4.mono hB.size)
  have BX := BX.step hw4
  clear z0 z1
  have z0 := BX.c0
  have z1 := BX.c1
  have hr1 := fun i (hi : i ≤ cn) => (hw4.cell (p := ⟨p1, i, none⟩) l1).trans (hr1 i hi)
  have l1 := Nat.lt_of_lt_of_le l1 hw4.size
  have hr2 := fun i (hi : i ≤ cn) => (hw4.cell (p := ⟨p2, i, none⟩) l2).trans (hr2 i hi)
  have l2 := Nat.lt_of_lt_of_le l2 hw4.size
  have hr3 := fun i (hi : i < cn + 1) => And.intro ((hw4.cell (p := ⟨p3, i * 2, none⟩) l3).trans (hr3 i hi).1) ((hw4.cell (p := ⟨p3, i * 2 + 1, none⟩) l3).trans (hr3 i hi).2)
  have l3 := Nat.lt_of_lt_of_le l3 hw4.size
  clear hw4
  go_wp2_with fail
  refine ((CD.out _ (CX.out.below hB)).1).mono ?_
  rintro e w5 ⟨p5, rfl, _, l5, hr5, hw5⟩
  have hB := hB.trans (hw5.mono hB.size)
  have BX := BX.step hw5
  clear z0 z1
  have z0 := BX.c0
  have z1 := BX.c1
  have hr1 := fun i (hi : i ≤ cn) => (hw5.cell (p := ⟨p1, i, none⟩) l1).trans (hr1 i hi)
  have l1 := Nat.lt_of_lt_of_le l1 hw5.size
  have hr2 := fun i (hi : i ≤ cn) => (hw5.cell (p := ⟨p2, i, none⟩) l2).trans (hr2 i hi)
  have l2 := Nat.lt_of_lt_of_le l2 hw5.size
  have hr3 := fun i (hi : i < cn + 1) => And.intro ((hw5.cell (p := ⟨p3, i * 2, none⟩) l3).trans (hr3 i hi).1) ((hw5.cell (p := ⟨p3, i * 2 + 1, none⟩) l3).trans (hr3 i hi).2)
  have l3 := Nat.lt_of_lt_of_le l3 hw5.size
  have hr4 := fun i (hi : i < cn + 1) => And.intro ((hw5.cell (p := ⟨p4, i * 2, none⟩) l4).trans (hr4 i hi).1) ((hw5.cell (p := ⟨p4, i * 2 + 1, none⟩) l4).trans (hr4 i hi).2)
  have l4 := Nat.lt_of_lt_of_le l4 hw5.size
  clear hw5
  go_wp2_with fail
  refine ((CD.out _ (CX.out.below hB)).2).mono ?_
  rintro e w6 ⟨p6, rfl, _, l6, hr6, hw6⟩
  have hB := hB.trans (hw6.mono hB.size)
  have BX := BX.step hw6
  clear z0 z1
  have z0 := BX.c0
  have z1 := BX.c1
  have hr1 := fun i (hi : i ≤ cn) => (hw6.cell (p := ⟨p1, i, none⟩) l1).trans (hr1 i hi)
  have l1 := Nat.lt_of_lt_of_le l1 hw6.size
  have hr2 := fun i (hi : i ≤ cn) => (hw6.cell (p := ⟨p2, i, none⟩) l2).trans (hr2 i hi)
  have l2 := Nat.lt_of_lt_of_le l2 hw6.size
  have hr3 := fun i (hi : i < cn + 1) => And.intro ((hw6.cell (p := ⟨p3, i * 2, none⟩) l3).trans (hr3 i hi).1) ((hw6.cell (p := ⟨p3, i * 2 + 1, none⟩) l3).trans (hr3 i hi).2)
  have l3 := Nat.lt_of_lt_of_le l3 hw6.size
  have hr4 := fun i (hi : i < cn + 1) => And.intro ((hw6.cell (p := ⟨p4, i * 2, none⟩) l4).trans (hr4 i hi).1) ((hw6.cell (p := ⟨p4, i * 2 + 1, none⟩) l4).trans (hr4 i hi).2)
  have l4 := Nat.lt_of_lt_of_le l4 hw6.size
  have hr5 := hr5.below hw6 l5
  have l5 := Nat.lt_of_lt_of_le l5 hw6.size
  clear hw6
  have R1 := Lib.hid hr1
  clear hr1
  have R2 := Lib.hid hr2
  clear hr2
  have R3 := Lib.hid hr3
  clear hr3
  have R4 := Lib.hid hr4
  clear hr4
  have R5 := Lib.hid hr5
  clear hr5
  have R6 := Lib.hid hr6
  clear hr6
  have HE := Lib.hid hB
  clear hB BX z0 z1
  go_wp2_with fail
  go_loopw [25] (fun z wr => ∃ i : Nat, i ≤ cn + 1 ∧ z = .int .i64 i ∧ Hid (Below w6.heap.size w6 wr)) (fun z _ => cn + 1 - (intOf z).toNat)
  case atStart => exact ⟨0, by omega, rfl, Lib.hid (Below.refl _ _)⟩
  case round =>
    obtain ⟨i, hi, rfl, HI⟩ := hrel
    by_cases hlt : i < cn + 1
    · have gl : decide ((i : Int) < 0) = false := decide_eq_false (by omega)
      have x1 := (HI.out.cell (p := ⟨p1, i, none⟩) l1).trans (R1.out i (by omega))
      have x2 := (HI.out.cell (p := ⟨p2, i, none⟩) l2).trans (R2.out i (by omega))
      have x3 := (HI.out.cell (p := ⟨p3, i * 2, none⟩) l3).trans (R3.out i (by omega)).1
      have y3 := (HI.out.cell (p := ⟨p3, i * 2 + 1, none⟩) l3).trans (R3.out i (by omega)).2
      have x4 := (HI.out.cell (p := ⟨p4, i * 2, none⟩) l4).trans (R4.out i (by omega)).1
      have y4 := (HI.out.cell (p := ⟨p4, i * 2 + 1, none⟩) l4).trans (R4.out i (by omega)).2
      have x5 := (HI.out.cell (p := ⟨p5, i, none⟩) l5).trans (R5.out.cell i (by omega))
      have x6 := (HI.out.cell (p := ⟨p6, i, none⟩) l6).trans (R6.out.cell i (by omega))
      go_wp2_with fail
      go_quiet (fail)
      have HJ := Lib.hid (HI.out.trans ((below_drewN (Below.refl _ _) nq).mono HI.out.size))
      go_wp2_with fail
      go_roundw
      case rel => exact ⟨i + 1, by omega, by go_num, HJ⟩
      case measure => simp [intOf]; omega
    · obtain rfl : i = cn + 1 := by omega
      go_wp2_with fail
      go_ret
      exact ⟨rfl, HE.out.trans (HI.out.mono HE.out.size)⟩
end Go.Proofs.YtmgglcfndhfceaaGreatDoor.Per
