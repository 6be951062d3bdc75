/-
  A region that draws its order, walked once, over all worlds in which nothing that existed has changed. No condition.
-/
import Derived.BigQuiet
import Derived.Below
namespace Go.Proofs.Ytebdldinlodgpaa
open Go Go.RowKit Go.Proofs
set_option linter.unusedVariables false
/-- A world in which nothing of w has changed. -/
structure BelowBy (w : World) where
  W : World
  h : Below w.heap.size w W
instance (w : World) : Inhabited (BelowBy w) := ⟨⟨w, Below.refl _ _⟩⟩
theorem wp_region_quiet_below {P : Program} {id : Nat} {Q : Exit → Act → World → Prop} {a : Act} {w0 w : World} {l : List Oper} (hm : P.follows .mixedOrders = true) (hB : Region.lexB .any l.toArray = true) (hw : Below w0.heap.size w0 w)
    (h : wpQuiet P l.toArray (fun w' => ∃ p : BelowBy w0, w' = p.W) (fun a' => ∀ w', (∃ p : BelowBy w0, w' = p.W) → Q .normal a' w') l a) : (Code.region id l.toArray true).wp P Q a w :=
  wp_region_quiet (C := fun w' => ∃ p : BelowBy w0, w' = p.W) hm hB ⟨⟨_, Below.drew hw⟩, rfl⟩ (by simpa using h)
end Go.Proofs.Ytebdldinlodgpaa
