/-
  What a law's walk keeps while it draws: the tape, and all that was there before the call. Pick over a new list; Step. No condition of its own.
-/
import Derived.Test.YtgkjdaeihjedkaaPrTape3
namespace Go.Proofs.Ytgkjdaeihjedkaa.Tp
open Go Go.RowKit Go.Lib Go.Proofs.Ytgkjdaeihjedkaa
set_option linter.unusedVariables false

structure Kept (w : World) (b : Nat) (wr : World) : Prop where
  tape : TapeAt b wr
  below : Below w.heap.size w wr
  far : w.heap.size ≤ b
theorem Kept.only {w u v : World} {b : Nat} (h : Kept w b u) (hT : TapeAt b v) (hO : Only b u v) : Kept w b v := ⟨hT, h.below.trans (hO.below h.far h.below.size), h.far⟩
theorem Kept.more {w u v : World} {b : Nat} (h : Kept w b u) (hB : Below u.heap.size u v) : Kept w b v := ⟨h.tape.below hB, h.below.trans (hB.mono h.below.size), h.far⟩
theorem Kept.alloc {w u : World} {b : Nat} (h : Kept w b u) (o : Obj) : Kept w b (u.alloc o) := h.more (Below.alloc (Below.refl _ _) (Nat.le_refl _) o)
theorem Kept.drewN {w u : World} {b : Nat} (h : Kept w b u) (k : Nat) : Kept w b (u.drewN k) := h.more (below_drewN (Below.refl _ _) k)

theorem list_cells (w : World) (vs : List Int) (t : TypeId) : ∀ i, i < vs.length → (w.alloc (.cells (vs.map (Value.int .i64)).toArray t)).cell? ⟨w.heap.size, i, none⟩ = some (.int .i64 (vs.getD i 0)) := by
  intro i hi
  rw [World.cell?_alloc_at _ _ _ _ rfl]
  simp [hi]
/-- Pick over a list that has just been laid. -/
theorem pick_new (b : Nat) (vs : List Int) (hv : 1 ≤ vs.length) (hv1 : vs.length ≤ 100) (w : World) (t : TypeId) (s : Nat) (hs : s = w.heap.size) (h : TapeAt b w) :
    Calls Try.prog 7 #[.pointer (some ⟨b, 0, none⟩), .slice (some ⟨s, 0, none⟩) vs.length vs.length] (w.alloc (.cells (vs.map (Value.int .i64)).toArray t)) (PickR b vs w) := by
  subst hs
  refine (pick_any b w.heap.size vs hv hv1 (by have := h.lt; omega) _ (h.alloc _) (list_cells w vs t)).mono ?_
  rintro e w' ⟨v, he, hm, hT, hO⟩
  exact ⟨v, he, hm, hT, ((Only.refl b w).alloc _).trans hO⟩

def StepR (b : Nat) (w : World) (e : Ending) (w' : World) : Prop :=
  ∃ p q : Int, p ∈ ([1, 5, 1, 50, 1, 3, 100, 7] : List Int) ∧ q ∈ ([100, 1, 20, 100, 2, 1000, 1] : List Int) ∧ e = .returned (.agg #[.int .i64 (newT p q).1, .int .i64 (newT p q).2.1]) ∧ TapeAt b w' ∧ Only b w w'
end Go.Proofs.Ytgkjdaeihjedkaa.Tp
