/-
  A region that draws its order, walked once, over all worlds that have only drawn and laid blocks since. No condition.
-/
import Derived.Test.YtebdldinlodgpaaPrQt
import Derived.Test.YtebdldinlodgpaaPrJa
namespace Go.Proofs.Ytebdldinlodgpaa
open Go Go.RowKit Go.Proofs Go.Proofs.Ytebdldinlodgpaa.Rc
set_option linter.unusedVariables false
/-- A world that has only drawn and laid blocks since w. -/
structure GrBy (w : World) where
  W : World
  h : Gr w W
instance (w : World) : Inhabited (GrBy w) := ⟨⟨w, Gr.refl _⟩⟩
theorem wp_region_quiet_gr {P : Program} {id : Nat} {Q : Exit → Act → World → Prop} {a : Act} {w0 w : World} {l : List Oper} (hm : P.follows .mixedOrders = true) (hB : Region.lexB .any l.toArray = true) (hw : Gr w0 w)
    (h : wpQuiet P l.toArray (fun w' => ∃ p : GrBy w0, w' = p.W) (fun a' => ∀ w', (∃ p : GrBy w0, w' = p.W) → Q .normal a' w') l a) : (Code.region id l.toArray true).wp P Q a w :=
  wp_region_quiet (C := fun w' => ∃ p : GrBy w0, w' = p.W) hm hB ⟨⟨_, Gr.drew hw⟩, rfl⟩ (by simpa using h)
theorem wp_region_gr_tail {id : Nat} {P : Program} {Q : Exit → Act → World → Prop} {a : Act} {w0 w : World} {l : List Oper} (n p : Nat) (hm : P.follows .mixedOrders = true) (hB : lexTailP l.toArray n p = true) (hpure : ∀ o, l[p]? = some o → PureOp P o)
    (hQ : ∀ o, l[p]? = some o → ∀ c a v w, Q (.panic c) (a.put o.dst v) w → Q (.panic c) a w) (hw : Gr w0 w)
    (h : wpQuiet P l.toArray (fun w' => ∃ p : GrBy w0, w' = p.W) (fun a' => ∀ p : GrBy w0, wpList P l.toArray Q (l.drop n) a' p.W) (l.take n) a) : (Code.region id l.toArray true).wp P Q a w :=
  wp_region_quiet_tail (C := fun w' => ∃ p : GrBy w0, w' = p.W) n p hm hB hpure hQ ⟨⟨_, Gr.drew hw⟩, rfl⟩ (by
    have e : (fun a' => ∀ w', (∃ p : GrBy w0, w' = p.W) → wpList P l.toArray Q (l.drop n) a' w') = fun a' => ∀ p : GrBy w0, wpList P l.toArray Q (l.drop n) a' p.W := by
      funext a'; exact propext ⟨fun h p => h _ ⟨p, rfl⟩, fun h w' ⟨p, e⟩ => e ▸ h p⟩
    rw [e]; exact h)
end Go.Proofs.Ytebdldinlodgpaa
