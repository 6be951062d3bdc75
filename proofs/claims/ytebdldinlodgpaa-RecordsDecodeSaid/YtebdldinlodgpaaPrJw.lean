/-
  Layer 7 (records): a byte of a list of the call's own is written; the byte that the law writes. No condition.
-/
import Derived.Test.YtebdldinlodgpaaPrJr
namespace Go.Proofs.Ytebdldinlodgpaa.Rc
open Go Go.RowKit Go.Lib Go.Sort Go.Shelf Go.Proofs Go.Proofs.Ytebdldinlodgpaa Go.Proofs.Ytebdldinlodgpaa.Tp
set_option linter.unusedVariables false

theorem fB_set (l : List Nat) (p V : Nat) : (l.flatMap eB).set p (.int .u8 (V : Int)) = (l.set p V).flatMap eB := by
  induction l generalizing p with
  | nil => rfl
  | cons c l ih =>
    cases p with
    | zero => rfl
    | succ p => simpa [eB] using ih p
theorem OwnB.lit0 (w : World) : OwnB w (.slice (some ⟨w.heap.size, 0, none⟩) 0 0) [] (w.alloc (.cells #[] 5)) :=
  ⟨⟨rfl, .inr ⟨w.heap.size, 0, _, rfl, Nat.le_refl _, heap_alloc_new w _, Nat.le_refl _, by unfold maxLen; omega, rfl, rfl⟩⟩, (Below.refl _ _).alloc (Nat.le_refl _) _⟩
theorem OwnB.put {w W : World} {g n cap : Nat} {l : List Nat} (h : OwnB w (.slice (some ⟨g, 0, none⟩) n cap) l W) (hn : n = l.length) (p V : Nat) :
    OwnB w (.slice (some ⟨g, 0, none⟩) n cap) (l.set p V) (W.setCell ⟨g, p, none⟩ (.int .u8 (V : Int))) ∧ W.frozen? ⟨g, p, none⟩ = false := by
  subst hn
  have hr := OwnL.row h
  obtain ⟨s1, s2⟩ := hr.stored p (.int .u8 (V : Int))
  rw [fB_set] at s1
  have hlt := hr.lt g rfl
  exact ⟨⟨by rw [List.length_set]; exact s1, (OwnL.below h).setCell (p := ⟨g, p, none⟩) hlt.1 _⟩, hr.frozenAt p⟩
theorem xor_ne {x v : Nat} (hv : v ≠ 0) : x ^^^ v ≠ x := by
  intro h
  have := xor_lc (a := v) (b := 0) (c := x) (by rw [h]; simp)
  exact hv this
theorem or_one_ne (v : Nat) : v ||| 1 ≠ 0 := by
  intro h
  have := congrArg (fun n => n.testBit 0) h
  simp at this
/-- The byte that the law writes. -/
theorem flip_byte (x v : Nat) (hx : x < 256) (hv : v < 256) : ∃ V : Nat, bits .xor .u8 (x : Int) (bits .or .u8 (v : Int) 1) = (V : Int) ∧ V < 256 ∧ x ≠ V := by
  have h1 := u8_or_nat v 1 hv (by decide)
  have hl : v ||| 1 < 256 := Nat.or_lt_two_pow (n := 8) hv (by decide)
  refine ⟨x ^^^ (v ||| 1), ?_, Nat.xor_lt_two_pow (n := 8) hx hl, fun h => xor_ne (or_one_ne v) h.symm⟩
  rw [show bits .or .u8 (v : Int) 1 = ((v ||| 1 : Nat) : Int) from h1, u8_xor_nat x _ hx hl]
end Go.Proofs.Ytebdldinlodgpaa.Rc
