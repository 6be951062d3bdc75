/-
  An argument that is a list of events holds events. No condition.
-/
import Derived.Test.YtebdldinlodgpaaPrLm
import Derived.Test.YtebdldinlodgpaaPrVr
namespace Go.Proofs.Ytebdldinlodgpaa.Ib
open Go Go.RowKit Go.Lib Go.Proofs.Ytebdldinlodgpaa.Tp Go.Proofs.Ytebdldinlodgpaa.Rc Go.Proofs.Ytebdldinlodgpaa.SE
set_option linter.unusedVariables false
theorem add_pos (x : Addr) (j : Nat) (hj : 0 < j) : x.add j = ⟨x.block, x.off + j, none⟩ := by unfold Addr.add; rw [if_neg (by omega)]
theorem add_nil (x : Addr) : x.add 0 = x := by unfold Addr.add; rw [if_pos rfl]
open Go.ChangeShapes Go.WideShapes in
set_option maxRecDepth 100000 in
/-- An argument that is a list of events holds events. -/
theorem open_evs {H : Type} {enc : TypeId × Value → H} {w : World} {base : Nat} {spare : Nat → Bool} {held : Bool} {fuel : Nat} {cs : List Value} {x : DataW H × List MemPlace}
    (h : DataW.trod enc Try.prog w base spare held fuel 44 cs = some x) :
    ∃ (a : Option Addr) (n cap : Nat) (hs : List Ev), cs = [.slice a n cap] ∧ Lst w a n cap hs := by
  rcases Go.Deep.open_slice Try.underlying44 h with ⟨rfl, _⟩ | ⟨a, n, cap, m, k, D, Pl, rfl, _, hl, hm, hmm, _, hi⟩
  · exact ⟨none, 0, 0, [], rfl, ⟨rfl, fun h => absurd h (Nat.lt_irrefl 0)⟩, fun _ => ⟨rfl, rfl⟩, by omega⟩
  · have hnm : n ≤ m := by rw [hmm]; split <;> omega
    have each : ∀ i, i < n → ∃ q : Ev, At4 w (a.add (i * 7)) q := by
      intro i hin
      obtain ⟨cs', hc, ht⟩ := hi i (by omega)
      rw [cellsEv] at hc
      obtain ⟨_, hlen, hat⟩ := World.cells?_some hc
      obtain ⟨e, rfl, _⟩ := trod_ev ht
      refine ⟨e, ?_, ?_, ?_, ?_, ?_, ?_, ?_⟩
      · have := hat 0 (by omega); rw [add_nil] at this; simpa using this
      · have := hat 1 (by omega); rw [add_pos _ _ (by omega)] at this; simpa using this
      · have := hat 2 (by omega); rw [add_pos _ _ (by omega)] at this; simpa using this
      · have := hat 3 (by omega); rw [add_pos _ _ (by omega)] at this; simpa using this
      · have := hat 4 (by omega); rw [add_pos _ _ (by omega)] at this; simpa using this
      · have := hat 5 (by omega); rw [add_pos _ _ (by omega)] at this; simpa using this
      · have := hat 6 (by omega); rw [add_pos _ _ (by omega)] at this; simpa using this
    obtain ⟨f, hf⟩ := Go.Deep.choose_lt each
    refine ⟨some a, n, cap, (List.range n).map f, rfl, ⟨by simp, fun h0 => ⟨a, rfl, ?_, fun i hin => ?_⟩⟩, fun h => (by cases h), by unfold maxLen at hm; omega⟩
    · have := World.block_lt_of_cell? w _ (hf 0 h0).1
      rwa [Nat.zero_mul, add_nil] at this
    · have := hf i hin
      simpa [hin] using this
end Go.Proofs.Ytebdldinlodgpaa.Ib
