/-
  Layer 7 (records): the bytes of some frames as a list of the call's own. No condition.
-/
import Derived.Test.YtebdldinlodgpaaPrJx
import Derived.Test.YtebdldinlodgpaaPrAo
import Derived.Test.YtebdldinlodgpaaPrQb
import Derived.Deep.Cut
import Derived.Deep.CutRange
namespace Go.Proofs.Ytebdldinlodgpaa.Rc
open Go Go.RowKit Go.Lib Go.Sort Go.Shelf Go.Proofs Go.Proofs.Ytebdldinlodgpaa Go.Proofs.Ytebdldinlodgpaa.Tp
set_option linter.unusedVariables false

theorem FrI.own {w w1 W : World} {b : Nat} {v : Value} {l : List Nat} (h : FrI w1 b v l W) (hb : b = w.heap.size) (h1 : Below w.heap.size w w1) : OwnB w v l W := by
  refine ⟨⟨h.row.1, ?_⟩, h1.trans (h.only.below (by omega) h1.size)⟩
  rcases h.row.2 with h0 | ⟨g, cap, cur, e, h2, h3⟩
  · exact .inl h0
  · exact .inr ⟨g, cap, cur, e, Nat.le_trans h1.size h2, h3⟩
/-- The bytes that the law decodes. -/
structure Byt (w : World) (A : Option Addr) (N cap : Nat) (L : List Nat) (W : World) : Prop where
  own : OwnB w (.slice A N cap) L W
  len : N = L.length
  le : N ≤ 2140
  cap : N ≤ cap
  by_ : By L
theorem Byt.mk' {w W : World} {v : Value} {L : List Nat} (h : OwnB w v L W) (hl : L.length ≤ 2140) (hb : By L) : ∃ A N cap, v = .slice A N cap ∧ Byt w A N cap L W := by
  rcases OwnL.form h with ⟨rfl, rfl⟩ | ⟨g, cap, rfl, h1, h2, h3, h4⟩
  · exact ⟨none, 0, 0, rfl, h, rfl, by simp, Nat.le_refl _, hb⟩
  · exact ⟨_, _, cap, rfl, h, rfl, hl, h3, hb⟩
theorem Byt.row {w W W' : World} {A : Option Addr} {N cap : Nat} {L : List Nat} (h : Byt w A N cap L W) (hb : Below W.heap.size W W') : BRow W' A N L := (OwnB.brow (OwnL.more h.own hb) h.by_).1
theorem dec_len (L : List Nat) : 24 * (dec L).1.length ≤ L.length ∧ (dec L).2.2 ≤ L.length := by
  have h1 := (dec_gap L).sum
  have h2 := scan_rest L
  have h3 := (dec_scan L).2
  omega
theorem below_drewN {B : Nat} {w W : World} (h : Below B w W) (n : Nat) : Below B w (W.drewN n) := ⟨h.os, h.tape, h.output, h.size, h.block⟩
theorem gap_len {es : List Ev} {gs : List (Nat × Nat)} {n : Nat} (h : GapI es gs n) : 24 * es.length + gs.length ≤ n := by
  have h1 := h.sum
  have h2 : ∀ l : List (Nat × Nat), (∀ i, i < l.length → (l[i]!).1 < (l[i]!).2) → l.length ≤ (l.map fun g => g.2 - g.1).sum := by
    intro l
    induction l with
    | nil => intro _; simp
    | cons q l ih =>
      intro hl
      have a := hl 0 (by simp)
      have b := ih fun i hi => by have := hl (i + 1) (by simp; omega); simpa using this
      simp at a ⊢
      omega
  have := h2 gs fun i hi => (h.pos i hi).1
  omega
theorem acc_len (L : List Nat) : (dec L).2.1.length ≤ L.length := by
  have h1 := gap_len (dec_gap L)
  have h2 := (dec_len L).2
  omega
/-- Where a slice's rest begins. -/
def fromA (A : Option Addr) (cap k : Nat) : Option Addr := if cap = k then A else A.map fun x => x.add k
theorem BRow.rest {W : World} {A : Option Addr} {N cap k : Nat} {L : List Nat} (h : BRow W A N L) (hk : k ≤ N) (hc : N ≤ cap) : BRow W (fromA A cap k) (N - k) (L.drop k) := by
  have hl := h.1
  have hb : By (L.drop k) := fun x hx => h.2.1 x (List.mem_of_mem_drop hx)
  unfold fromA
  split
  · rename_i e
    exact ⟨by rw [List.length_drop]; omega, hb, fun h0 => by omega⟩
  · refine ⟨by rw [List.length_drop]; omega, hb, fun h0 => ?_⟩
    obtain ⟨x, rfl, hx⟩ := h.2.2 (by omega)
    have := BRow.sub h k N hk (Nat.le_refl _)
    rw [show sl L k N = L.drop k by unfold sl; exact List.take_of_length_le (by rw [List.length_drop]; omega)] at this
    exact this.2.2 h0
theorem BRow.first {W : World} {A : Option Addr} {N k : Nat} {L : List Nat} (h : BRow W A N L) (hk : k ≤ N) : BRow W A k (L.take k) := by
  have hl := h.1
  refine ⟨by rw [List.length_take]; omega, fun x hx => h.2.1 x (List.mem_of_mem_take hx), fun h0 => ?_⟩
  obtain ⟨x, e, hx⟩ := h.2.2 (by omega)
  refine ⟨x, e, fun i hi => ?_⟩
  rw [hx i (by omega), getElem!_pos L i (by omega), getElem!_pos (L.take k) i (by rw [List.length_take]; omega), List.getElem_take]
end Go.Proofs.Ytebdldinlodgpaa.Rc
