/-
  RatioComputes: the walk: six pairs of made fractions, and two arbitrary ones in both orders, agree; the answer is true.
-/
import Derived.Test.YtpdkmmiedkkpeaaDoorPrAgr
import Derived.Test.YtpdkmmiedkkpeaaDoorPrSane
import Derived.Test.YtpdkmmiedkkpeaaDoorPrTape3
import Derived.LoopTactic
namespace Go.Proofs.YtpdkmmiedkkpeaaDoor
open Go Go.RowKit Go.Lib Go.Proofs.YtpdkmmiedkkpeaaDoor.Tp

/-- What the loop keeps: the tape, the two boxed arguments, and all that was there before the call. -/
structure CompI (w : World) (a b c d : Int) (wr : World) : Prop where
  tape : TapeAt (w.heap.size + 1 + 1) wr
  x : Res wr w.heap.size a b
  y : Res wr (w.heap.size + 1) c d
  below : Below w.heap.size w wr
theorem CompI.only {w : World} {a b c d : Int} {u v : World} (h : CompI w a b c d u) (hT : TapeAt (w.heap.size + 1 + 1) v) (hO : Only (w.heap.size + 1 + 1) u v) : CompI w a b c d v :=
  ⟨hT, h.x.only (by omega) hO, h.y.only (by omega) hO, h.below.trans (hO.below (by omega) h.below.size)⟩
theorem CompI.more {w : World} {a b c d : Int} {u v : World} (h : CompI w a b c d u) (hO : Below u.heap.size u v) : CompI w a b c d v :=
  ⟨h.tape.below hO, h.x.below hO, h.y.below hO, h.below.trans (hO.mono h.below.size)⟩

set_option maxRecDepth 100000 in
set_option maxHeartbeats 4000000 in
theorem comp_walk (p : Option Addr) (len cap : Nat) (zs : List Int) (a b c d : Int) (ha0 : -9223372036854775808 ≤ a) (ha1 : a ≤ 9223372036854775807) (hb0 : -9223372036854775808 ≤ b) (hb1 : b ≤ 9223372036854775807) (hc0 : -9223372036854775808 ≤ c) (hc1 : c ≤ 9223372036854775807) (hd0 : -9223372036854775808 ≤ d) (hd1 : d ≤ 9223372036854775807)
    (w : World) (hr : IsRow w p len cap zs) (hl : len ≤ 9223372036854775807) (hok : OKW w) :
    Calls Tryd.prog 4 #[.slice p len cap, .agg #[.int .i64 a, .int .i64 b], .agg #[.int .i64 c, .int .i64 d]] w fun e w' => e = .returned (.bool true) ∧ Below w.heap.size w w' := by
  have hr2 : IsRow ((w.alloc (.cells #[.int .i64 a, .int .i64 b] 23)).alloc (.cells #[.int .i64 c, .int .i64 d] 23)) p len cap zs := by
    rcases hr with h | ⟨x, h1, h2, h3, h4, h5, h6⟩
    · exact .inl h
    · exact .inr ⟨x, h1, h2, h3, h4, fun i hi => cell_below (h5 i hi) (boxed2 _ _ _), h6⟩
  have T0 := tape_new hr2 hl 54
  have hI0 : CompI w a b c d (((w.alloc (.cells #[.int .i64 a, .int .i64 b] 23)).alloc (.cells #[.int .i64 c, .int .i64 d] 23)).alloc (.cells #[.slice p len cap, .int .i64 0] 54)) :=
    ⟨by simpa using T0, ((Res.new w a b _).alloc _).alloc _, (by simpa using ((Res.new (w.alloc (.cells #[.int .i64 a, .int .i64 b] 23)) c d 23).alloc (.cells #[.slice p len cap, .int .i64 0] 54))), boxed3 _ _ _ _⟩
  have HI := Lib.hid hI0
  clear hr hr2 T0 hI0
  go_enter Tryd.func4, Tryd.ntmps4
  go_wp2_with (go_at_call 13; refine (gnew_any _ _ _ _).mono ?_; rintro e w' ⟨rfl, rfl⟩)
  go_loopw [8] (fun i wr => ∃ k : Nat, k ≤ 6 ∧ i = .int .i64 k ∧ CompI w a b c d wr) (fun i _ => (6 - RowKit.intOf i).toNat)
  case atStart => exact ⟨0, by omega, rfl, HI.out⟩
  case round =>
    obtain ⟨k, hk, rfl, hI⟩ := hrel
    by_cases h : k < 6
    · have TT := hI.tape
      go_wp2_with fail
      refine (frac_any (w.heap.size + 1 + 1) _ TT).mono ?_
      rintro e w1 ⟨n1, d1, rfl, p1, p2, p3, p4, T1, O1⟩
      have I1 := hI.only T1 O1
      go_wp2_with fail
      refine (frac_any (w.heap.size + 1 + 1) _ T1).mono ?_
      rintro e w2 ⟨n2, d2, rfl, q1, q2, q3, q4, T2, O2⟩
      have I2 := I1.only T2 O2
      go_wp2_with fail
      refine (agrees_any n1 d1 n2 d2 (by omega) (by omega) (by omega) (by omega) (by omega) (by omega) (by omega) (by omega) _).mono ?_
      rintro e w3 ⟨rfl, hw3⟩
      have I3 := I2.more hw3
      go_wp2_with fail
      exact ⟨⟨k + 1, by omega, by go_num, I3⟩, by simp [RowKit.intOf]; omega⟩
    · obtain rfl : k = 6 := by omega
      obtain ⟨x0, x1, _, _⟩ := hI.x
      obtain ⟨y0, y1, _, _⟩ := hI.y
      have hokr := hok.below hI.below
      have hBr := hI.below
      go_wp2_with fail
      refine (agrees_any a b c d ha0 ha1 hb0 hb1 hc0 hc1 hd0 hd1 _).mono ?_
      rintro e w1 ⟨rfl, hw1⟩
      have x10 := cell_below x0 hw1
      have x11 := cell_below x1 hw1
      have y10 := cell_below y0 hw1
      have y11 := cell_below y1 hw1
      have hok1 := hokr.below hw1
      have hB1 : Below w.heap.size w w1 := hBr.trans (hw1.mono hBr.size)
      clear x0 x1 y0 y1
      go_wp2_with fail
      refine (agrees_any c d a b hc0 hc1 hd0 hd1 ha0 ha1 hb0 hb1 _).mono ?_
      rintro e w2 ⟨rfl, hw2⟩
      have hok2 := hok1.below hw2
      have hB2 : Below w.heap.size w w2 := hB1.trans (hw2.mono hB1.size)
      go_wp2_with fail
      refine (sane_any _ hok2).mono ?_
      rintro e w3 ⟨rfl, hw3⟩
      have hB3 : Below w.heap.size w w3 := hB2.trans (hw3.mono hB2.size)
      go_wp2_with fail
      go_ret
      exact ⟨rfl, hB3⟩
end Go.Proofs.YtpdkmmiedkkpeaaDoor
