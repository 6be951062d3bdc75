/-
  The generator of inputs: the contract of SpoilEvent: some event. Condition: the tape's block reads as a tape.
-/
import Derived.Test.YtebdldinlodgpaaPrJk
import Derived.Deep.Cut
import Derived.Deep.CutRange
import Derived.Deep.DeepCutAuto
import Derived.Deep.CutBlock
namespace Go.Proofs.Ytebdldinlodgpaa.Rc
open Go Go.RowKit Go.Lib Go.Sort Go.Shelf Go.Proofs Go.Proofs.Ytebdldinlodgpaa Go.Proofs.Ytebdldinlodgpaa.Tp
set_option linter.unusedVariables false

/-- An event with another number in its j-th place. -/
def setE (e : Ev) (j : Nat) (v : Int) : Ev := match j with
  | 0 => { e with kt := v }
  | 1 => { e with ks := v }
  | 2 => { e with em := v }
  | 3 => { e with ti := v }
  | 4 => { e with ki := v }
  | 5 => { e with tt := v }
  | 6 => { e with ts := v }
  | _ => e
theorem BxE.set1 {W : World} {p : Nat} {e : Ev} (h : BxE W p e) (j : Nat) (hj : j < 7) (v : Int) : BxE (W.setCell ⟨p, j, none⟩ (.int .i64 v)) p (setE e j v) := by
  obtain ⟨⟨a0, a1, a2, a3, a4, a5, a6⟩, hf⟩ := h
  have hj : j = 0 ∨ j = 1 ∨ j = 2 ∨ j = 3 ∨ j = 4 ∨ j = 5 ∨ j = 6 := by omega
  rcases hj with rfl | rfl | rfl | rfl | rfl | rfl | rfl
  · exact ⟨⟨World.cell?_setCell_same _ _ _ a0, (oth _ _ 0 1 _ (by decide)).trans a1, (oth _ _ 0 2 _ (by decide)).trans a2, (oth _ _ 0 3 _ (by decide)).trans a3, (oth _ _ 0 4 _ (by decide)).trans a4, (oth _ _ 0 5 _ (by decide)).trans a5, (oth _ _ 0 6 _ (by decide)).trans a6⟩, fun i hi => by simp only [World.frozen?_setCell]; exact hf i hi⟩
  · exact ⟨⟨(oth _ _ 1 0 _ (by decide)).trans a0, World.cell?_setCell_same _ _ _ a1, (oth _ _ 1 2 _ (by decide)).trans a2, (oth _ _ 1 3 _ (by decide)).trans a3, (oth _ _ 1 4 _ (by decide)).trans a4, (oth _ _ 1 5 _ (by decide)).trans a5, (oth _ _ 1 6 _ (by decide)).trans a6⟩, fun i hi => by simp only [World.frozen?_setCell]; exact hf i hi⟩
  · exact ⟨⟨(oth _ _ 2 0 _ (by decide)).trans a0, (oth _ _ 2 1 _ (by decide)).trans a1, World.cell?_setCell_same _ _ _ a2, (oth _ _ 2 3 _ (by decide)).trans a3, (oth _ _ 2 4 _ (by decide)).trans a4, (oth _ _ 2 5 _ (by decide)).trans a5, (oth _ _ 2 6 _ (by decide)).trans a6⟩, fun i hi => by simp only [World.frozen?_setCell]; exact hf i hi⟩
  · exact ⟨⟨(oth _ _ 3 0 _ (by decide)).trans a0, (oth _ _ 3 1 _ (by decide)).trans a1, (oth _ _ 3 2 _ (by decide)).trans a2, World.cell?_setCell_same _ _ _ a3, (oth _ _ 3 4 _ (by decide)).trans a4, (oth _ _ 3 5 _ (by decide)).trans a5, (oth _ _ 3 6 _ (by decide)).trans a6⟩, fun i hi => by simp only [World.frozen?_setCell]; exact hf i hi⟩
  · exact ⟨⟨(oth _ _ 4 0 _ (by decide)).trans a0, (oth _ _ 4 1 _ (by decide)).trans a1, (oth _ _ 4 2 _ (by decide)).trans a2, (oth _ _ 4 3 _ (by decide)).trans a3, World.cell?_setCell_same _ _ _ a4, (oth _ _ 4 5 _ (by decide)).trans a5, (oth _ _ 4 6 _ (by decide)).trans a6⟩, fun i hi => by simp only [World.frozen?_setCell]; exact hf i hi⟩
  · exact ⟨⟨(oth _ _ 5 0 _ (by decide)).trans a0, (oth _ _ 5 1 _ (by decide)).trans a1, (oth _ _ 5 2 _ (by decide)).trans a2, (oth _ _ 5 3 _ (by decide)).trans a3, (oth _ _ 5 4 _ (by decide)).trans a4, World.cell?_setCell_same _ _ _ a5, (oth _ _ 5 6 _ (by decide)).trans a6⟩, fun i hi => by simp only [World.frozen?_setCell]; exact hf i hi⟩
  · exact ⟨⟨(oth _ _ 6 0 _ (by decide)).trans a0, (oth _ _ 6 1 _ (by decide)).trans a1, (oth _ _ 6 2 _ (by decide)).trans a2, (oth _ _ 6 3 _ (by decide)).trans a3, (oth _ _ 6 4 _ (by decide)).trans a4, (oth _ _ 6 5 _ (by decide)).trans a5, World.cell?_setCell_same _ _ _ a6⟩, fun i hi => by simp only [World.frozen?_setCell]; exact hf i hi⟩
theorem size_alloc (w : World) (o : Obj) : (w.alloc o).heap.size = w.heap.size + 1 := Array.size_push _
theorem three3 (w : World) (x0 x1 x2 : Int) (t : TypeId) : ∀ i, i < ([x0, x1, x2] : List Int).length → (w.alloc (.cells #[.int .i64 x0, .int .i64 x1, .int .i64 x2] t)).cell? ⟨w.heap.size, i, none⟩ = some (.int .i64 (([x0, x1, x2] : List Int).getD i 0)) := by
  intro i hi
  rcases i with _ | _ | _ | i
  all_goals first | (go_simp; done) | (simp at hi; omega)
def SpR (b : Nat) (w : World) (r : Ending) (w' : World) : Prop := ∃ e : Ev, r = .returned (vE e) ∧ TapeAt b w' ∧ Only b w w'

set_option maxRecDepth 100000 in
set_option maxHeartbeats 4000000 in
theorem spoil_any (b : Nat) (e : Ev) (w : World) (h : TapeAt b w) :
    Calls Try.prog 16 #[.pointer (some ⟨b, 0, none⟩), vE e] w (SpR b w) := by
  have hb := h.lt
  have H0 := Lib.hid ((h.alloc (.cells #[.int .i64 e.kt, .int .i64 e.ks, .int .i64 e.em, .int .i64 e.ti, .int .i64 e.ki, .int .i64 e.tt, .int .i64 e.ts] 26)).alloc (.cells #[.int .i64 0, .int .i64 0, .int .i64 0, .int .i64 0, .int .i64 0, .int .i64 0, .int .i64 0] 26))
  have O0 := Lib.hid (Only.alloc (Only.alloc (Only.refl b w) (.cells #[.int .i64 e.kt, .int .i64 e.ks, .int .i64 e.em, .int .i64 e.ti, .int .i64 e.ki, .int .i64 e.tt, .int .i64 e.ts] 26)) (.cells #[.int .i64 0, .int .i64 0, .int .i64 0, .int .i64 0, .int .i64 0, .int .i64 0, .int .i64 0] 26))
  have X0 := Lib.hid ((BxE.new w e 26).alloc (.cells #[.int .i64 0, .int .i64 0, .int .i64 0, .int .i64 0, .int .i64 0, .int .i64 0, .int .i64 0] 26))
  have Z0 : Hid (BxE ((w.alloc (.cells #[.int .i64 e.kt, .int .i64 e.ks, .int .i64 e.em, .int .i64 e.ti, .int .i64 e.ki, .int .i64 e.tt, .int .i64 e.ts] 26)).alloc (.cells #[.int .i64 0, .int .i64 0, .int .i64 0, .int .i64 0, .int .i64 0, .int .i64 0, .int .i64 0] 26)) (w.heap.size + 1) zE) := Lib.hid (by
    have := BxE.new (w.alloc (.cells #[.int .i64 e.kt, .int .i64 e.ks, .int .i64 e.em, .int .i64 e.ti, .int .i64 e.ki, .int .i64 e.tt, .int .i64 e.ts] 26)) zE 26
    rwa [size_alloc] at this)
  have ne1 : w.heap.size ≠ b := by omega
  have ne2 : w.heap.size + 1 ≠ b := by omega
  clear h
  obtain ⟨kt, ks, em, ti, ki, tt, ts⟩ := e
  unfold vE
  simp only at H0 O0 X0 Z0 ⊢
  go_enter Try.func16, Try.ntmps16
  go_wp2_with fail
  generalize (w.alloc (.cells #[.int .i64 kt, .int .i64 ks, .int .i64 em, .int .i64 ti, .int .i64 ki, .int .i64 tt, .int .i64 ts] 26)).alloc (.cells #[.int .i64 0, .int .i64 0, .int .i64 0, .int .i64 0, .int .i64 0, .int .i64 0, .int .i64 0] 26) = wa at *
  refine (next_any b 6 (by omega) (by omega) _ H0.out).mono ?_
  rintro r w1 ⟨m, rfl, m0, m1, T1, O1⟩
  have H1 := Lib.hid T1
  have P1 := Lib.hid (O0.out.trans O1)
  have X1 := Lib.hid (X0.out.only O1 ne1)
  have Z1 := Lib.hid (Z0.out.only O1 ne2)
  clear T1 O1 H0 O0 X0 Z0
  have hm : m = 0 ∨ m = 1 ∨ m = 2 ∨ m = 3 ∨ m = 4 ∨ m = 5 := by omega
  clear m0 m1
  go_upto_block 0 with fail
  go_cut [3] (fun s wx => s = .pointer (some ⟨w.heap.size, 0, none⟩) ∧ ∃ e : Ev, Hid (TapeAt b wx) ∧ Hid (Only b w wx) ∧ Hid (BxE wx w.heap.size e) ∧ Hid (BxE wx (w.heap.size + 1) zE))
  case first =>
    have ne3 : w1.heap.size ≠ b := by have := H1.out.lt; omega
    rcases hm with rfl | rfl | rfl | rfl | rfl | rfl
    · have H2 := Lib.hid (H1.out.alloc (.cells #[.int .i64 0, .int .i64 7, .int .i64 (-1)] 3))
      have P2 := Lib.hid (P1.out.alloc (.cells #[.int .i64 0, .int .i64 7, .int .i64 (-1)] 3))
      have X2 := Lib.hid (X1.out.alloc (.cells #[.int .i64 0, .int .i64 7, .int .i64 (-1)] 3))
      have Z2 := Lib.hid (Z1.out.alloc (.cells #[.int .i64 0, .int .i64 7, .int .i64 (-1)] 3))
      go_wp2_with fail
      refine (pick_any b w1.heap.size [0, 7, (-1)] (by simp) (by simp) ne3 _ H2.out (three3 w1 0 7 (-1) 3)).mono ?_
      rintro r w2 ⟨c, rfl, _, T2, O2⟩
      have H3 := Lib.hid T2
      have P3 := Lib.hid (P2.out.trans O2)
      have X3 := Lib.hid (X2.out.only O2 ne1)
      have Z3 := Lib.hid (Z2.out.only O2 ne2)
      clear T2 O2 H1 P1 X1 Z1 H2 P2 X2 Z2
      obtain ⟨x0, x1, x2, x3, x4, x5, x6⟩ := X3.out.at7
      simp only at x0 x1 x2 x3 x4 x5 x6
      have f4 := X3.out.free 4 (by decide)
      go_wp2_with fail
      go_meet
      exact ⟨rfl, _, Lib.hid (H3.out.far (p := ⟨w.heap.size, 4, none⟩) hb (.int .i64 c)), Lib.hid (P3.out.setCell (p := ⟨w.heap.size, 4, none⟩) (.inr (Nat.le_refl _)) (.int .i64 c)), Lib.hid (X3.out.set1 4 (by decide) c), Lib.hid (Z3.out.keep (Below.heap_setCell _ ⟨w.heap.size, 4, none⟩ (.int .i64 c) (w.heap.size + 1) (by simp)))⟩
    · have H2 := Lib.hid (H1.out.alloc (.cells #[.int .i64 0, .int .i64 (-1), .int .i64 2147483648] 3))
      have P2 := Lib.hid (P1.out.alloc (.cells #[.int .i64 0, .int .i64 (-1), .int .i64 2147483648] 3))
      have X2 := Lib.hid (X1.out.alloc (.cells #[.int .i64 0, .int .i64 (-1), .int .i64 2147483648] 3))
      have Z2 := Lib.hid (Z1.out.alloc (.cells #[.int .i64 0, .int .i64 (-1), .int .i64 2147483648] 3))
      go_wp2_with fail
      refine (pick_any b w1.heap.size [0, (-1), 2147483648] (by simp) (by simp) ne3 _ H2.out (three3 w1 0 (-1) 2147483648 3)).mono ?_
      rintro r w2 ⟨c, rfl, _, T2, O2⟩
      have H3 := Lib.hid T2
      have P3 := Lib.hid (P2.out.trans O2)
      have X3 := Lib.hid (X2.out.only O2 ne1)
      have Z3 := Lib.hid (Z2.out.only O2 ne2)
      clear T2 O2 H1 P1 X1 Z1 H2 P2 X2 Z2
      obtain ⟨x0, x1, x2, x3, x4, x5, x6⟩ := X3.out.at7
      simp only at x0 x1 x2 x3 x4 x5 x6
      have f2 := X3.out.free 2 (by decide)
      go_wp2_with fail
      go_meet
      exact ⟨rfl, _, Lib.hid (H3.out.far (p := ⟨w.heap.size, 2, none⟩) hb (.int .i64 c)), Lib.hid (P3.out.setCell (p := ⟨w.heap.size, 2, none⟩) (.inr (Nat.le_refl _)) (.int .i64 c)), Lib.hid (X3.out.set1 2 (by decide) c), Lib.hid (Z3.out.keep (Below.heap_setCell _ ⟨w.heap.size, 2, none⟩ (.int .i64 c) (w.heap.size + 1) (by simp)))⟩
    · have H2 := Lib.hid (H1.out.alloc (.cells #[.int .i64 (-1), .int .i64 120968640, .int .i64 0] 3))
      have P2 := Lib.hid (P1.out.alloc (.cells #[.int .i64 (-1), .int .i64 120968640, .int .i64 0] 3))
      have X2 := Lib.hid (X1.out.alloc (.cells #[.int .i64 (-1), .int .i64 120968640, .int .i64 0] 3))
      have Z2 := Lib.hid (Z1.out.alloc (.cells #[.int .i64 (-1), .int .i64 120968640, .int .i64 0] 3))
      go_wp2_with fail
      refine (pick_any b w1.heap.size [(-1), 120968640, 0] (by simp) (by simp) ne3 _ H2.out (three3 w1 (-1) 120968640 0 3)).mono ?_
      rintro r w2 ⟨c, rfl, _, T2, O2⟩
      have H3 := Lib.hid T2
      have P3 := Lib.hid (P2.out.trans O2)
      have X3 := Lib.hid (X2.out.only O2 ne1)
      have Z3 := Lib.hid (Z2.out.only O2 ne2)
      clear T2 O2 H1 P1 X1 Z1 H2 P2 X2 Z2
      obtain ⟨x0, x1, x2, x3, x4, x5, x6⟩ := X3.out.at7
      simp only at x0 x1 x2 x3 x4 x5 x6
      have f3 := X3.out.free 3 (by decide)
      go_wp2_with fail
      go_meet
      exact ⟨rfl, _, Lib.hid (H3.out.far (p := ⟨w.heap.size, 3, none⟩) hb (.int .i64 c)), Lib.hid (P3.out.setCell (p := ⟨w.heap.size, 3, none⟩) (.inr (Nat.le_refl _)) (.int .i64 c)), Lib.hid (X3.out.set1 3 (by decide) c), Lib.hid (Z3.out.keep (Below.heap_setCell _ ⟨w.heap.size, 3, none⟩ (.int .i64 c) (w.heap.size + 1) (by simp)))⟩
    · have H2 := Lib.hid (H1.out.alloc (.cells #[.int .i64 65536, .int .i64 (-1), .int .i64 65535] 3))
      have P2 := Lib.hid (P1.out.alloc (.cells #[.int .i64 65536, .int .i64 (-1), .int .i64 65535] 3))
      have X2 := Lib.hid (X1.out.alloc (.cells #[.int .i64 65536, .int .i64 (-1), .int .i64 65535] 3))
      have Z2 := Lib.hid (Z1.out.alloc (.cells #[.int .i64 65536, .int .i64 (-1), .int .i64 65535] 3))
      go_wp2_with fail
      refine (pick_any b w1.heap.size [65536, (-1), 65535] (by simp) (by simp) ne3 _ H2.out (three3 w1 65536 (-1) 65535 3)).mono ?_
      rintro r w2 ⟨c, rfl, _, T2, O2⟩
      have H3 := Lib.hid T2
      have P3 := Lib.hid (P2.out.trans O2)
      have X3 := Lib.hid (X2.out.only O2 ne1)
      have Z3 := Lib.hid (Z2.out.only O2 ne2)
      clear T2 O2 H1 P1 X1 Z1 H2 P2 X2 Z2
      obtain ⟨x0, x1, x2, x3, x4, x5, x6⟩ := X3.out.at7
      simp only at x0 x1 x2 x3 x4 x5 x6
      have f0 := X3.out.free 0 (by decide)
      go_wp2_with fail
      go_meet
      exact ⟨rfl, _, Lib.hid (H3.out.far (p := ⟨w.heap.size, 0, none⟩) hb (.int .i64 c)), Lib.hid (P3.out.setCell (p := ⟨w.heap.size, 0, none⟩) (.inr (Nat.le_refl _)) (.int .i64 c)), Lib.hid (X3.out.set1 0 (by decide) c), Lib.hid (Z3.out.keep (Below.heap_setCell _ ⟨w.heap.size, 0, none⟩ (.int .i64 c) (w.heap.size + 1) (by simp)))⟩
    · have H2 := Lib.hid (H1.out.alloc (.cells #[.int .i64 (-1), .int .i64 2147483648, .int .i64 2147483647] 3))
      have P2 := Lib.hid (P1.out.alloc (.cells #[.int .i64 (-1), .int .i64 2147483648, .int .i64 2147483647] 3))
      have X2 := Lib.hid (X1.out.alloc (.cells #[.int .i64 (-1), .int .i64 2147483648, .int .i64 2147483647] 3))
      have Z2 := Lib.hid (Z1.out.alloc (.cells #[.int .i64 (-1), .int .i64 2147483648, .int .i64 2147483647] 3))
      go_wp2_with fail
      refine (pick_any b w1.heap.size [(-1), 2147483648, 2147483647] (by simp) (by simp) ne3 _ H2.out (three3 w1 (-1) 2147483648 2147483647 3)).mono ?_
      rintro r w2 ⟨c, rfl, _, T2, O2⟩
      have H3 := Lib.hid T2
      have P3 := Lib.hid (P2.out.trans O2)
      have X3 := Lib.hid (X2.out.only O2 ne1)
      have Z3 := Lib.hid (Z2.out.only O2 ne2)
      clear T2 O2 H1 P1 X1 Z1 H2 P2 X2 Z2
      obtain ⟨x0, x1, x2, x3, x4, x5, x6⟩ := X3.out.at7
      simp only at x0 x1 x2 x3 x4 x5 x6
      have f1 := X3.out.free 1 (by decide)
      go_wp2_with fail
      go_meet
      exact ⟨rfl, _, Lib.hid (H3.out.far (p := ⟨w.heap.size, 1, none⟩) hb (.int .i64 c)), Lib.hid (P3.out.setCell (p := ⟨w.heap.size, 1, none⟩) (.inr (Nat.le_refl _)) (.int .i64 c)), Lib.hid (X3.out.set1 1 (by decide) c), Lib.hid (Z3.out.keep (Below.heap_setCell _ ⟨w.heap.size, 1, none⟩ (.int .i64 c) (w.heap.size + 1) (by simp)))⟩
    · have H2 := Lib.hid (H1.out.alloc (.cells #[.int .i64 1, .int .i64 70000, .int .i64 (-1)] 3))
      have P2 := Lib.hid (P1.out.alloc (.cells #[.int .i64 1, .int .i64 70000, .int .i64 (-1)] 3))
      have X2 := Lib.hid (X1.out.alloc (.cells #[.int .i64 1, .int .i64 70000, .int .i64 (-1)] 3))
      have Z2 := Lib.hid (Z1.out.alloc (.cells #[.int .i64 1, .int .i64 70000, .int .i64 (-1)] 3))
      go_wp2_with fail
      refine (pick_any b w1.heap.size [1, 70000, (-1)] (by simp) (by simp) ne3 _ H2.out (three3 w1 1 70000 (-1) 3)).mono ?_
      rintro r w2 ⟨c, rfl, _, T2, O2⟩
      have H3 := Lib.hid T2
      have P3 := Lib.hid (P2.out.trans O2)
      have X3 := Lib.hid (X2.out.only O2 ne1)
      have Z3 := Lib.hid (Z2.out.only O2 ne2)
      clear T2 O2 H1 P1 X1 Z1 H2 P2 X2 Z2
      obtain ⟨x0, x1, x2, x3, x4, x5, x6⟩ := X3.out.at7
      simp only at x0 x1 x2 x3 x4 x5 x6
      have f5 := X3.out.free 5 (by decide)
      have f6 := X3.out.free 6 (by decide)
      go_wp2_with fail
      go_meet
      exact ⟨rfl, _, Lib.hid ((H3.out.far (p := ⟨w.heap.size, 5, none⟩) hb (.int .i64 c)).far (p := ⟨w.heap.size, 6, none⟩) hb (.int .i64 0)), Lib.hid ((P3.out.setCell (p := ⟨w.heap.size, 5, none⟩) (.inr (Nat.le_refl _)) (.int .i64 c)).setCell (p := ⟨w.heap.size, 6, none⟩) (.inr (Nat.le_refl _)) (.int .i64 0)), Lib.hid ((X3.out.set1 5 (by decide) c).set1 6 (by decide) 0), Lib.hid ((Z3.out.keep (Below.heap_setCell _ ⟨w.heap.size, 5, none⟩ (.int .i64 c) (w.heap.size + 1) (by simp))).keep (Below.heap_setCell _ ⟨w.heap.size, 6, none⟩ (.int .i64 0) (w.heap.size + 1) (by simp)))⟩
  case rest =>
  obtain ⟨hs, e, HT, HO, HX, HZ⟩ := hcut
  subst hs
  obtain ⟨w2, hw2⟩ : ∃ w2, w2 = wc := ⟨_, rfl⟩
  subst hw2
  clear H1 P1 X1 Z1
  obtain ⟨kt, ks, em, ti, ki, tt, ts⟩ := e
  obtain ⟨x0, x1, x2, x3, x4, x5, x6⟩ := HX.out.at7
  obtain ⟨z0, z1, z2, z3, z4, z5, z6⟩ := HZ.out.at7
  have g0 := HZ.out.free 0 (by decide)
  have g1 := HZ.out.free 1 (by decide)
  have g2 := HZ.out.free 2 (by decide)
  have g3 := HZ.out.free 3 (by decide)
  have g4 := HZ.out.free 4 (by decide)
  have g5 := HZ.out.free 5 (by decide)
  have g6 := HZ.out.free 6 (by decide)
  simp only [zE] at x0 x1 x2 x3 x4 x5 x6 z0 z1 z2 z3 z4 z5 z6
  go_wp2_with fail
  have HF := Lib.hid (put7_tape HT.out (show b < w.heap.size + 1 by omega) ⟨kt, ks, em, ti, ki, tt, ts⟩)
  have PF := Lib.hid (put7_only HO.out (Nat.le_succ _) (p := w.heap.size + 1) ⟨kt, ks, em, ti, ki, tt, ts⟩)
  have ZF := Lib.hid (BxE.put HZ.out ⟨kt, ks, em, ti, ki, tt, ts⟩)
  clear z0 g0 z1 g1 z2 g2 z3 g3 z4 g4 z5 g5 z6 g6 x0 x1 x2 x3 x4 x5 x6 HX HZ
  unfold put7 at HF PF ZF
  simp only at HF PF ZF
  obtain ⟨y0, y1, y2, y3, y4, y5, y6⟩ := ZF.out.at7
  simp only at y0 y1 y2 y3 y4 y5 y6
  exact bodyPost_ret (v := vE ⟨kt, ks, em, ti, ki, tt, ts⟩) (by simp [results, Try.results16, go_sem, vE, y0, y1, y2, y3, y4, y5, y6]) rfl ⟨_, rfl, HF.out, PF.out⟩
end Go.Proofs.Ytebdldinlodgpaa.Rc
