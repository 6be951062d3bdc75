/-
  Layer 5 (period): what the statements PeriodSpans and PeriodPartition call: spans answers true, at any calendar and any numbers; the walks of both statements: the answer is true. Condition: the table of month lengths reads as the program's text lays it.
-/
import Derived.Test.YtcdilaembophlaaDoorPrYq
import Derived.Test.YtcdilaembophlaaDoorPrYs
import Derived.Test.YtcdilaembophlaaDoorPrYt
namespace Go.Proofs.YtcdilaembophlaaDoor.Per
open Go Go.RowKit Go.Lib Go.Proofs.YtcdilaembophlaaDoor Go.Proofs.YtcdilaembophlaaDoor.Cal Go.Proofs.YtcdilaembophlaaDoor.Tp
set_option linter.unusedVariables false

/-- The boxes of spans. -/
structure SbI (w : World) (k a : Int) (rb sb : Nat) (F T : Int) (wr : World) : Prop where
  box : Box2 wr w.heap.size 24 k a
  r : Box2 wr rb 40 F T
  s : Box2 wr sb 40 F T
  below : Below w.heap.size w wr
theorem SbI.step {w wr w' : World} {k a F T : Int} {rb sb : Nat} (h : SbI w k a rb sb F T wr) (hb : Below wr.heap.size wr w') : SbI w k a rb sb F T w' :=
  ⟨h.box.step hb, h.r.step hb, h.s.step hb, h.below.trans (hb.mono h.below.size)⟩
theorem SbI.drew {w wr : World} {k a F T : Int} {rb sb : Nat} (h : SbI w k a rb sb F T wr) : SbI w k a rb sb F T wr.drew := ⟨h.box, h.r, h.s, h.below.drew⟩

set_option maxRecDepth 100000 in
set_option maxHeartbeats 4000000 in
theorem spans_any (k a d n : Int) (w : World) (hl : LgIs w) :
    Calls Tryd.prog 9 #[.agg #[.int .i64 k, .int .i64 a], .int .i64 d, .int .i64 n] w (RetV (.bool true) w) := by
  have C1 := Lib.hid (fun w hl => pof_any k a d w hl)
  have C2 := Lib.hid (rpof_any k a d)
  have C3 := Lib.hid (fun w hl => pspan_any k a n w hl)
  have C4 := Lib.hid (rpspan_any k a n)
  have C5 := Lib.hid (pvalid_any k a)
  have C6 := Lib.hid (rpvalid_any k a)
  have C7 := Lib.hid (fun w hl => pcount_any k a w hl)
  have C8 := Lib.hid (rpcount_any k a)
  generalize ofV k a d = v1 at *
  generalize ofE k a d = v2 at *
  generalize spF k a n = F at *
  generalize spT k a n = T at *
  generalize spE k a n = E at *
  generalize vE k a = V at *
  generalize cnV k a = N at *
  have HL := Lib.hid hl
  clear hl
  go_enter Tryd.func9, Tryd.ntmps9
  go_wp2_with fail
  have R0 := Box2.new w 24 k a
  have hB0 : Below w.heap.size w (w.alloc (.cells #[.int .i64 k, .int .i64 a] 24)) := (Below.refl _ _).alloc (Nat.le_refl _) _
  refine (C1.out _ (HL.out.below hB0)).mono ?_
  rintro e w1 ⟨rfl, hw1⟩
  have R1 := R0.step hw1
  have hB1 := hB0.trans (hw1.mono hB0.size)
  have z0 := R1.c0
  have z1 := R1.c1
  clear hw1 R0 hB0
  go_wp2_with fail
  refine (C2.out _).mono ?_
  rintro e w2 ⟨rfl, hw2⟩
  have R2 := R1.step hw2
  have hB2 := hB1.trans (hw2.mono hB1.size)
  clear hw2 R1 hB1 z0 z1
  have z0 := R2.c0
  have z1 := R2.c1
  go_wp2_with fail
  refine (C3.out _ (HL.out.below hB2)).mono ?_
  rintro e w3 ⟨rfl, hw3⟩
  have R3 := R2.step hw3
  have hB3 := hB2.trans (hw3.mono hB2.size)
  have r3 := Box2.new w3 40 F T
  clear hw3 R2 hB2 z0 z1
  have z0 := (R3.alloc (.cells #[.int .i64 F, .int .i64 T] 40)).c0
  have z1 := (R3.alloc (.cells #[.int .i64 F, .int .i64 T] 40)).c1
  go_wp2_with fail
  refine (C4.out _).mono ?_
  rintro e w4 ⟨rfl, hw4⟩
  have hB3' := hB3.alloc hB3.size (.cells #[.int .i64 F, .int .i64 T] 40)
  have hB4 := hB3'.trans (hw4.mono hB3'.size)
  have I0 : SbI w k a w3.heap.size w4.heap.size F T (w4.alloc (.cells #[.int .i64 F, .int .i64 T] 40)) :=
    ⟨((R3.alloc _).step hw4).alloc _, (r3.step hw4).alloc _, Box2.new w4 _ F T, hB4.alloc hB4.size _⟩
  clear hw4 R3 hB3 hB3' hB4 r3 z0 z1 C1 C2 C3 C4
  have hl4 := HL.out.below I0.below
  go_wp2_with fail
  go_region_held3 (fun w' => w'.cell? ⟨w.heap.size, 0, none⟩ = some (.int .i64 k) ∧ w'.cell? ⟨w.heap.size, 1, none⟩ = some (.int .i64 a) ∧ w'.cell? ⟨w3.heap.size, 0, none⟩ = some (.int .i64 F) ∧ w'.cell? ⟨w3.heap.size, 1, none⟩ = some (.int .i64 T) ∧ w'.cell? ⟨w4.heap.size, 0, none⟩ = some (.int .i64 F) ∧ w'.cell? ⟨w4.heap.size, 1, none⟩ = some (.int .i64 T) ∧ SbI w k a w3.heap.size w4.heap.size F T w')
    (first | exact ⟨I0.box.c0, I0.box.c1, I0.r.c0, I0.r.c1, I0.s.c0, I0.s.c1, I0.drew⟩ | exact ⟨I3.box.c0, I3.box.c1, I3.r.c0, I3.r.c1, I3.s.c0, I3.s.c1, I3⟩)
    (first
      | (go_at_call 22; go_split_ands; refine (C5.out _).mono ?_; rintro e w5 ⟨rfl, hw5⟩; (have I3 : SbI w k a w3.heap.size w4.heap.size F T w5 := SbI.step (by assumption) hw5))
      | (go_at_call 18; go_split_ands; refine (C6.out _).mono ?_; rintro e w5 ⟨rfl, hw5⟩; (have I3 : SbI w k a w3.heap.size w4.heap.size F T w5 := SbI.step (by assumption) hw5))
      | (go_at_call 17; go_split_ands; refine (C7.out _ (HL.out.below (SbI.below (by assumption)))).mono ?_; rintro e w5 ⟨rfl, hw5⟩; (have I3 : SbI w k a w3.heap.size w4.heap.size F T w5 := SbI.step (by assumption) hw5))
      | (go_at_call 11; go_split_ands; refine (C8.out _).mono ?_; rintro e w5 ⟨rfl, hw5⟩; (have I3 : SbI w k a w3.heap.size w4.heap.size F T w5 := SbI.step (by assumption) hw5)))
  go_split_ands
  have I4 := I3.below
  go_wp2
  go_ret
  exact ⟨rfl, I4⟩
end Go.Proofs.YtcdilaembophlaaDoor.Per
