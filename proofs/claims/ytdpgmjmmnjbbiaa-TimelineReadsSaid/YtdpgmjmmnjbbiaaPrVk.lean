/-
  An argument that is a list of changes of values holds changes. No condition.
-/
import Derived.Test.YtdpgmjmmnjbbiaaPrVa
import Derived.ProofKit
import Derived.SizedLaws
import Derived.OpenShut
import Derived.ShutString
import Derived.ChangeOld
import Derived.Lib.SmallJoins
import Derived.Deep.Slices
import Derived.ChangeArms
namespace Go.Proofs.Ytdpgmjmmnjbbiaa.Tl
open Go Go.RowKit Go.Lib
theorem add_pos (x : Addr) (j : Nat) (hj : 0 < j) : x.add j = ⟨x.block, x.off + j, none⟩ := by unfold Addr.add; rw [if_neg (by omega)]
theorem add_nil (x : Addr) : x.add 0 = x := by unfold Addr.add; rw [if_pos rfl]
theorem cellsChg : Try.prog.cellsOf 42 = 4 := by kernel_rfl
theorem lt_of_cell {w : World} {a : Addr} {v : Value} (h : w.cell? a = some v) : a.block < w.heap.size := by
  rcases Nat.lt_or_ge a.block w.heap.size with h' | h'
  · exact h'
  · simp [World.cell?, Array.getElem?_eq_none h'] at h
theorem four_of {α : Type} {l : List α} (h : l.length = 4) : ∃ a b c d, l = [a, b, c, d] := by
  rcases l with _ | ⟨a, _ | ⟨b, _ | ⟨c, _ | ⟨d, _ | ⟨e, l⟩⟩⟩⟩⟩
  case cons.cons.cons.cons.nil => exact ⟨a, b, c, d, rfl⟩
  all_goals simp at h
open Go.Deep in
/-- Each field of a struct of one-cell fields reads by itself. -/
theorem each_field {H : Type} {enc : TypeId × Value → H} {P : Program} {w : World} {base : Nat} {spare : Nat → Bool} {held : Bool} {fuel : Nat} {t : TypeId} {fs : Array Field} {cs : List Value} {x : DataW H × List MemPlace}
    (hone : oneCellFields P fs = true) (ht : P.underlying t = some (.struct fs)) (h : DataW.trod enc P w base spare held fuel t cs = some x) :
    ∃ n : Nat, ∀ (j : Nat) (f : Field) (v : Value), fs[j]? = some f → cs[j]? = some v → ∃ y, DataW.trod enc P w base spare held n f.type [v] = some y := by
  obtain ⟨ys, n, _, _, _, hyl, hg⟩ := DataW.trod_struct ht h
  refine ⟨n, fun j f v hf hv => ?_⟩
  obtain ⟨ho, hk⟩ := hone_of hone j f hf
  have hj : j < ys.length := by rw [hyl]; exact (Array.getElem?_eq_some_iff.1 hf).1
  obtain ⟨hjc, e⟩ := List.getElem?_eq_some_iff.1 hv
  have g := hg j f hf
  rw [ho, hk, List.drop_eq_getElem_cons hjc, e, List.getElem?_eq_getElem hj] at g
  exact ⟨_, g⟩
open Go.ChangeShapes Go.WideShapes in
set_option maxRecDepth 100000 in
/-- An argument that is a list of changes holds changes. -/
theorem open_chgs {H : Type} {enc : TypeId × Value → H} {w : World} {base : Nat} {spare : Nat → Bool} {held : Bool} {fuel : Nat} {cs : List Value} {x : DataW H × List MemPlace}
    (h : DataW.trod enc Try.prog w base spare held fuel 23 cs = some x) :
    ∃ (a : Option Addr) (n cap : Nat) (hs : List Chg), cs = [.slice a n cap] ∧ Lst w a n cap hs := by
  rcases Go.Deep.open_slice Try.underlying23 h with ⟨rfl, _⟩ | ⟨a, n, cap, m, k, D, Pl, rfl, _, hl, hm, hmm, _, hi⟩
  · exact ⟨none, 0, 0, [], rfl, ⟨rfl, fun h => absurd h (Nat.lt_irrefl 0)⟩, fun _ => ⟨rfl, rfl⟩, by omega⟩
  · have hnm : n ≤ m := by rw [hmm]; split <;> omega
    have each : ∀ i, i < n → ∃ q : Chg, At4 w (a.add (i * 4)) q := by
      intro i hin
      obtain ⟨cs', hc, ht⟩ := hi i (by omega)
      rw [cellsChg] at hc
      obtain ⟨_, hlen, hat⟩ := World.cells?_some hc
      obtain ⟨n', hg⟩ := each_field (by kernel_rfl) Try.underlying42 ht
      clear hc ht
      obtain ⟨v0, v1, v2, v3, rfl⟩ := four_of hlen
      obtain ⟨_, q0⟩ := hg 0 _ v0 rfl rfl
      obtain ⟨_, q1⟩ := hg 1 _ v1 rfl rfl
      obtain ⟨_, q2⟩ := hg 2 _ v2 rfl rfl
      obtain ⟨_, q3⟩ := hg 3 _ v3 rfl rfl
      clear hg
      obtain ⟨b0, e0, _, _⟩ := DataW.trod_int Try.underlying3 q0
      obtain ⟨b1, e1, _, _⟩ := DataW.trod_int Try.underlying3 q1
      obtain ⟨b2, e2, _, _⟩ := DataW.trod_int Try.underlying3 q2
      obtain ⟨b3, e3, _⟩ := DataW.trod_bool Try.underlying4 q3
      simp only [List.cons.injEq, and_true] at e0 e1 e2 e3
      subst e0 e1 e2 e3
      refine ⟨⟨b0, b1, b2, b3⟩, ?_, ?_, ?_, ?_⟩
      · have := hat 0 (by omega); rw [add_nil] at this; simpa using this
      · have := hat 1 (by omega); rw [add_pos _ _ (by omega)] at this; simpa using this
      · have := hat 2 (by omega); rw [add_pos _ _ (by omega)] at this; simpa using this
      · have := hat 3 (by omega); rw [add_pos _ _ (by omega)] at this; simpa using this
    obtain ⟨f, hf⟩ := Go.Deep.choose_lt each
    refine ⟨some a, n, cap, (List.range n).map f, rfl, ⟨by simp, fun h0 => ⟨a, rfl, ?_, fun i hin => ?_⟩⟩, fun h => (by cases h), by unfold maxLen at hm; omega⟩
    · have := lt_of_cell (hf 0 h0).1
      rwa [addB4] at this
    · have := hf i hin
      simpa [hin] using this
end Go.Proofs.Ytdpgmjmmnjbbiaa.Tl
