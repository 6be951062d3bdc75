/-
  slices.rotateCmpFunc at elements of one cell: two neighbouring ranges change places. Conditions: neither range is empty, both lie in the row.
-/
import Derived.Test.YtcdilaembophlaaDoorPrSq
namespace Go.Proofs.YtcdilaembophlaaDoor
open Go Go.RowKit Go.Lib Go.Sort Go.Shelf Go.Proofs Go.Proofs.YtcdilaembophlaaDoor.Mg
set_option linter.unusedVariables false

section
variable {α : Type} [Inhabited α]
/-- A row that holds what f says. -/
def Rw (enc : α → Value) (w0 : World) (blk off sz : Nat) (f : Nat → α) (w : World) : Prop := ∃ d : Array α, d.size = sz ∧ fn d = f ∧ SW enc w0 blk off d w
def RwR (enc : α → Value) (w0 : World) (blk off sz : Nat) (f : Nat → α) (e : Ending) (w : World) : Prop := e = .returned (.tuple #[]) ∧ Rw enc w0 blk off sz f w

theorem swapRange_z (enc : α → Value) (cv : Value) (blk off cap sz a b n : Nat) (za zb zn : Int) (ea : za = (a : Int)) (eb : zb = (b : Int)) (en : zn = (n : Int)) (d0 : Array α) (f : Nat → α) (w0 w : World) (R : Row1 enc w0 blk off d0) (hs : d0.size = sz) (S : Rw enc w0 blk off sz f w)
    (hab : a + n ≤ b) (hb : b + n ≤ sz) (hsz : sz < 4611686018427387904) :
    Calls Tryd.prog 94 #[.slice (some ⟨blk, off, none⟩) sz cap, .int .i64 za, .int .i64 zb, .int .i64 zn, cv] w (RwR enc w0 blk off sz (swpR f a b n)) := by
  obtain ⟨d, rfl, rfl, S⟩ := S
  subst ea eb en
  exact swapRange_s enc cv blk off cap a b n d0 d w0 w R hs S hab hb hsz

set_option maxHeartbeats 4000000 in
set_option maxRecDepth 100000 in
theorem rotate_s (enc : α → Value) (cv : Value) (blk off cap sz a m b : Nat) (d0 : Array α) (f : Nat → α) (w0 w : World) (R : Row1 enc w0 blk off d0) (hs : d0.size = sz) (S : Rw enc w0 blk off sz f w)
    (ham : a < m) (hmb : m < b) (hb : b ≤ sz) (hsz : sz < 4611686018427387904) :
    Calls Tryd.prog 87 #[.slice (some ⟨blk, off, none⟩) sz cap, .int .i64 a, .int .i64 m, .int .i64 b, cv] w (RwR enc w0 blk off sz (rotR f a m b)) := by
  have HS := Lib.hid S
  have HRW := Lib.hid R
  clear S R
  go_enter Tryd.func87, Tryd.ntmps87
  go_wp2_with fail
  go_loopg [10, 11] (b - a) (fun g1 vi vj wr => ∃ (i j : Nat) (g : Nat → α), vi = .int .i64 i ∧ vj = .int .i64 j ∧ 0 < i ∧ i ≤ m - a ∧ 0 < j ∧ j ≤ b - m ∧ i + j ≤ g1 ∧ Hid (rotR g (m - i) m (m + j) = rotR f a m b) ∧ Hid (Rw enc w0 blk off sz g wr))
  case atStart => exact ⟨m - a, b - m, f, by congr 1; omega, by congr 1; omega, by omega, by omega, by omega, by omega, by omega, Lib.hid (by rw [show m - (m - a) = a by omega, show m + (b - m) = b by omega]), HS⟩
  case round =>
    clear HS
    obtain ⟨i, j, g, rfl, rfl, hi, hi2, hj, hj2, hg, HF, HR⟩ := hrel
    rcases Nat.lt_trichotomy i j with h | h | h
    · have t0 : ((i : Int) == (j : Int)) = false := by simp; omega
      have t1 : decide ((j : Int) < (i : Int)) = false := by simp; omega
      go_wp2_with fail
      refine (swapRange_z enc cv blk off cap sz (m - i) (m + j - i) i _ _ _ (by omega) (by omega) rfl d0 g w0 wr HRW.out hs HR.out (by omega) (by omega) hsz).mono ?_
      rintro e w2 ⟨rfl, hw2⟩
      have HR2 := Lib.hid hw2
      clear hw2 HR
      go_wp2_with fail
      go_roundg (i + (j - i))
      case measure => omega
      case rel => exact ⟨i, j - i, _, rfl, by congr 1; omega, hi, hi2, by omega, by omega, Nat.le_refl _, Lib.hid (by
        rw [← HF.out, ← rot_step2 g (m - i) m (m + j) (by omega) (by omega) (by omega)]
        rw [show m - (m - i) = i by omega, show m + (j - i) = m + j - i by omega]), HR2⟩
    · subst h
      have t0 : ((i : Int) == (i : Int)) = true := by simp
      go_wp2_with fail
      refine (swapRange_z enc cv blk off cap sz (m - i) m i _ _ _ (by omega) rfl rfl d0 g w0 wr HRW.out hs HR.out (by omega) (by omega) hsz).mono ?_
      rintro e w2 ⟨rfl, hw2⟩
      have e3 := rot_end g (m - i) m (m + i) (by omega) (by omega) (by omega)
      rw [show m - (m - i) = i by omega] at e3
      rw [e3, HF.out] at hw2
      clear e3
      go_wp2_with fail
      go_end0
      exact ⟨rfl, hw2⟩
    · have t0 : ((i : Int) == (j : Int)) = false := by simp; omega
      have t1 : decide ((j : Int) < (i : Int)) = true := by simp; omega
      go_wp2_with fail
      refine (swapRange_z enc cv blk off cap sz (m - i) m j _ _ _ (by omega) rfl rfl d0 g w0 wr HRW.out hs HR.out (by omega) (by omega) hsz).mono ?_
      rintro e w2 ⟨rfl, hw2⟩
      have HR2 := Lib.hid hw2
      clear hw2 HR
      go_wp2_with fail
      go_roundg (i - j + j)
      case measure => omega
      case rel => exact ⟨i - j, j, _, by congr 1; omega, rfl, by omega, by omega, hj, hj2, Nat.le_refl _, Lib.hid (by
        rw [← HF.out, ← rot_step1 g (m - i) m (m + j) (by omega) (by omega) (by omega)]
        rw [show m + j - m = j by omega, show m - (i - j) = m - i + j by omega]), HR2⟩
end
end Go.Proofs.YtcdilaembophlaaDoor
