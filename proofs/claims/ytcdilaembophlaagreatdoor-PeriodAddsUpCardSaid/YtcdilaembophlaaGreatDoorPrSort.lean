/-
  slices.SortStableFunc at ints, fewer than 20 elements: the row holds what the insertion sort leaves. Conditions: the comparison's own contract; fewer than 20 elements.
-/
import Derived.Test.YtcdilaembophlaaGreatDoorPrRound
import Derived.Shelf.SlSortCmp.Insertion1
namespace Go.Proofs.YtcdilaembophlaaGreatDoor
open Go Go.RowKit Go.Lib Go.Sort Go.Shelf Go.Proofs
set_option linter.unusedVariables false

section
variable {α : Type} [Inhabited α]

set_option maxHeartbeats 2000000 in
set_option maxRecDepth 100000 in
theorem stable60 (enc : α → Value) (cf : α → α → Int) (g : Nat) (cb : Array Value) (blk off cap : Nat) (d : Array α) (w : World)
    (eg : ∀ args w, (callFunc g args).run Tryz.prog w = .ok (.enter g args) w) (hcmp : CmpLays1 Tryz.prog g cb enc cf blk off d.size w) (R : Row1 enc w blk off d) (h20 : d.size < 20) :
    Calls Tryz.prog 88 #[.slice (some ⟨blk, off, none⟩) d.size cap, .int .i64 d.size, .func (.func g) #[] cb] w fun e w' => e = .returned (.tuple #[]) ∧ SW enc w blk off (Sort.insertionSort (ltOf cf) d 0 d.size) w' := by
  have hS : SW enc w blk off d w := SW.start R.hH
  have hc := Tryz.insertionSortCmpFunc_s enc cf g cb blk off cap 0 d.size d d w w eg hcmp R rfl hS (Nat.zero_le _) (Nat.le_refl _) (by omega)
  clear hS R hcmp eg
  go_enter Tryz.func88, Tryz.ntmps88
  go_wp2
  refine wp_loop_rounds 1 ?_
  rw [rounds_succ]
  go_wp2_with (go_at_call 94; refine hc.mono ?_; rintro e w1 ⟨rfl, hs⟩)
  refine wp_loop_rounds 1 ?_
  rw [rounds_succ]
  go_wp2
  go_end0
  exact ⟨rfl, hs⟩

set_option maxHeartbeats 2000000 in
theorem stable_any (enc : α → Value) (cf : α → α → Int) (g : Nat) (cb : Array Value) (blk off cap : Nat) (d : Array α) (w : World)
    (eg : ∀ args w, (callFunc g args).run Tryz.prog w = .ok (.enter g args) w) (hcmp : CmpLays1 Tryz.prog g cb enc cf blk off d.size w) (R : Row1 enc w blk off d) (h20 : d.size < 20) :
    Calls Tryz.prog 76 #[.slice (some ⟨blk, off, none⟩) d.size cap, .func (.func g) #[] cb] w fun e w' => e = .returned (.tuple #[]) ∧ SW enc w blk off (Sort.insertionSort (ltOf cf) d 0 d.size) w' := by
  have hc := stable60 enc cf g cb blk off cap d w eg hcmp R h20
  clear R hcmp eg
  go_enter Tryz.func76, Tryz.ntmps76
  go_wp2_with (go_at_call 88; refine hc.mono ?_; rintro e w1 ⟨rfl, hs⟩)
  go_end0
  exact ⟨rfl, hs⟩
end
end Go.Proofs.YtcdilaembophlaaGreatDoor
