/-
  Layer 5 (period): the plain mathematics of PeriodAddsUp: two parts of a period, and their portions. No condition of its own.
-/
import Derived.Test.YtcdilaembophlaaGreatDoorPrYp
import Derived.Test.YtcdilaembophlaaGreatDoorPrAr
import Derived.Test.YtcdilaembophlaaGreatDoorPrTot
namespace Go.Proofs.YtcdilaembophlaaGreatDoor.Per
open Go Go.RowKit Go.Lib Go.Proofs.YtcdilaembophlaaGreatDoor Go.Proofs.YtcdilaembophlaaGreatDoor.Cal
set_option linter.unusedVariables false

/-- Two portions add up to 1. -/
def onesB (s x : Nat) : Bool := decide (addT (newT (x : Int) s).1 (newT (x : Int) s).2.1 (newT ((s - x : Nat) : Int) s).1 (newT ((s - x : Nat) : Int) s).2.1 = (1, 1, 0))
theorem ones_all : ∀ s : Fin 32, ∀ x : Fin 32, 1 ≤ s.val → x.val ≤ s.val → onesB s.val x.val = true := by decide +kernel
theorem ones (s x y : Int) (h1 : 1 ≤ s) (h2 : s ≤ 31) (x0 : 0 ≤ x) (y0 : 0 ≤ y) (hs : x + y = s) : addT (newT x s).1 (newT x s).2.1 (newT y s).1 (newT y s).2.1 = (1, 1, 0) := by
  have h := ones_all ⟨s.toNat, by omega⟩ ⟨x.toNat, by omega⟩ (by simp; omega) (by simp; omega)
  have h' := of_decide_eq_true h
  simp only at h'
  rw [show ((s.toNat : Nat) : Int) = s by omega, show ((x.toNat : Nat) : Int) = x by omega, show ((s.toNat - x.toNat : Nat) : Int) = y by omega] at h'
  exact h'
theorem new_bd (x s : Int) (x0 : 0 ≤ x) (x1 : x ≤ 1000) (s1 : 1 ≤ s) (s2 : s ≤ 1000) : 0 ≤ (newT x s).1 ∧ (newT x s).1 ≤ 1000 ∧ 0 ≤ (newT x s).2.1 ∧ (newT x s).2.1 ≤ 1000 := by
  have e := newT_fit x s false false (by omega) (decide_eq_false (by omega)) (decide_eq_false (by omega))
  rw [e]
  unfold fitT
  have a : x.natAbs / Nat.gcd x.natAbs s.natAbs ≤ x.natAbs := Nat.div_le_self _ _
  have b : s.natAbs / Nat.gcd x.natAbs s.natAbs ≤ s.natAbs := Nat.div_le_self _ _
  rw [cutT_ok _ _ _ (by omega) (by omega)]
  generalize x.natAbs / Nat.gcd x.natAbs s.natAbs = q at *
  generalize s.natAbs / Nat.gcd x.natAbs s.natAbs = r at *
  show 0 ≤ (q : Int) ∧ (q : Int) ≤ 1000 ∧ 0 ≤ (r : Int) ∧ (r : Int) ≤ 1000
  omega
theorem whole_31 (mt : Int) (hs : List Hol) (F T : Int) (hp : PartOk mt hs F T) (h30 : T ≤ F + 30) : 0 ≤ whole mt (nmAll hs) F T ∧ whole mt (nmAll hs) F T ≤ 31 ∧ (mt = 2 → whole mt (nmAll hs) F T = 30) := by
  obtain ⟨h, h0, h1, h2⟩ := hp
  rcases h with rfl | ⟨rfl, hv⟩ | ⟨rfl, m, m0, m1, rfl, rfl⟩
  · unfold whole; rw [sumD_0]; omega
  · unfold whole; rw [sumD_1]
    have := Cal.cnt_bd (nmAll hs) F (T + 1 - F).toNat
    omega
  · rw [whole_30 _ m m0 m1]; omega
/-- The weights of the whole and of two parts. -/
theorem one_part (mt : Int) (Z : List Int) (F T : Int) (g : Nat → Int) : wtF mt Z g F T 0 0 = whole mt Z F T := by
  unfold wtF whole
  rw [bnd_0, bnd_end]
theorem two_parts (mt : Int) (Z : List Int) (F T c : Int) (h0 : F < c) (h1 : c ≤ T) : dvP (fun _ => c) F T 1 ∧ wtF mt Z (fun _ => c) F T 1 0 + wtF mt Z (fun _ => c) F T 1 1 = whole mt Z F T := by
  have hd : dvP (fun _ => c) F T 1 := fun i hi => by
    obtain rfl : i = 0 := by omega
    rw [bnd_0]; exact ⟨h0, h1⟩
  refine ⟨hd, ?_⟩
  have := wt_total mt Z (by omega) hd
  simp only [sumTo] at this
  omega
theorem no_cuts (g : Nat → Int) (F T : Int) : dvP g F T 0 := fun i hi => by omega
/-- A method that suits the kind, for the period that a calendar has. -/
theorem part_ok (k a n mt : Int) (hs : List Hol) (h : okP k a) (n0 : 0 ≤ n) (n1 : n < cnt k a) (hm : mt = 0 ∨ mt = 1 ∨ (mt = 2 ∧ k = 0)) (hv : hs.all Hol.ok = true) : PartOk mt hs (sF k a n) (sT k a n) := by
  have b := span_bd k a n n0 n1
  refine ⟨?_, b.1, b.2.1, b.2.2.1⟩
  rcases hm with hm | hm | ⟨hm, rfl⟩
  · exact .inl hm
  · exact .inr (.inl ⟨hm, hv⟩)
  · refine .inr (.inr ⟨hm, n, n0, by rw [cnt_0] at n1; omega, by rw [sF_0], by rw [sT_0]⟩)
end Go.Proofs.YtcdilaembophlaaGreatDoor.Per
