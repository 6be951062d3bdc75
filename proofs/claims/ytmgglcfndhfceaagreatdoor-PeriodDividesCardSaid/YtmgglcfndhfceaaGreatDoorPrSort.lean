/-
  Several texts in one; what each shows, and its conditions, stand ahead of it. No condition beside theirs.
-/
import Derived.Test.YtmgglcfndhfceaaGreatDoorPrTp
import Derived.Test.YtmgglcfndhfceaaGreatDoorShelf
import Derived.WalkSmall
import Derived.Shelf.SlSortCmp.Insertion1
/- A bridge: the rounding's texts stand on the calendar's tape. No condition of its own. -/
namespace Go.Proofs.YtmgglcfndhfceaaGreatDoor
open Go Go.RowKit Go.Lib
theorem cmp3 (x y : Int) : (x < y ∧ Lib.compareInt x y = -1) ∨ (x = y ∧ Lib.compareInt x y = 0) ∨ (y < x ∧ Lib.compareInt x y = 1) := by
  unfold Lib.compareInt
  rcases Int.lt_trichotomy x y with h | h | h
  · exact .inl ⟨h, by rw [if_pos h]⟩
  · exact .inr (.inl ⟨h, by rw [if_neg (by omega), if_neg (by omega)]⟩)
  · exact .inr (.inr ⟨h, by rw [if_neg (by omega), if_pos h]⟩)
/-- What within answers. -/
def witB (n lo hi : Int) : Bool := decide (lo ≤ n) && decide (n ≤ hi)
theorem wit_yes {n lo hi : Int} (h0 : lo ≤ n) (h1 : n ≤ hi) : witB n lo hi = true := by unfold witB; rw [decide_eq_true h0, decide_eq_true h1]; rfl
theorem wit_no {n lo hi : Int} (h : ¬ (lo ≤ n ∧ n ≤ hi)) : witB n lo hi = false := by unfold witB; simp; omega
set_option maxHeartbeats 1000000 in
theorem wit_any (n lo hi : Int) (w : World) : Calls Tryz.prog 62 #[.int .i64 n, .int .i64 lo, .int .i64 hi] w fun e w' => e = .returned (.bool (witB n lo hi)) ∧ w = w' := by
  by_cases h0 : lo ≤ n
  · have H : Hid (witB n lo hi = decide (n ≤ hi)) := Lib.hid (by unfold witB; rw [decide_eq_true h0]; rfl)
    go_enter Tryz.func62, Tryz.ntmps62
    go_wp2
    go_ret
    exact ⟨by rw [H.out]; rfl, rfl⟩
  · have H : Hid (witB n lo hi = false) := Lib.hid (wit_no (by omega))
    have h1 : decide (lo ≤ n) = false := decide_eq_false h0
    go_enter Tryz.func62, Tryz.ntmps62
    go_wp2
    go_ret
    exact ⟨by rw [H.out]; rfl, rfl⟩
theorem wit_of {n lo hi : Int} (h : witB n lo hi = true) : lo ≤ n ∧ n ≤ hi := by unfold witB at h; simpa using h
theorem wit_not {n lo hi : Int} (h : witB n lo hi = false) : n < lo ∨ (lo ≤ n ∧ hi < n) := by unfold witB at h; simp at h; omega
end Go.Proofs.YtmgglcfndhfceaaGreatDoor
/- slices.SortStableFunc at ints, fewer than 20 elements: the row holds what the insertion sort leaves. Conditions: the comparison's own contract; fewer than 20 elements. -/
namespace Go.Proofs.YtmgglcfndhfceaaGreatDoor
open Go Go.RowKit Go.Lib Go.Sort Go.Shelf Go.Proofs
set_option linter.unusedVariables false

section
variable {α : Type} [Inhabited α]

set_option maxHeartbeats 2000000 in
set_option maxRecDepth 100000 in
theorem stable60 (enc : α → Value) (cf : α → α → Int) (g : Nat) (cb : Array Value) (blk off cap : Nat) (d : Array α) (w : World)
    (eg : ∀ args w, (callFunc g args).run Tryz.prog w = .ok (.enter g args) w) (hcmp : CmpLays1 Tryz.prog g cb enc cf blk off d.size w) (R : Row1 enc w blk off d) (h20 : d.size < 20) :
    Calls Tryz.prog 86 #[.slice (some ⟨blk, off, none⟩) d.size cap, .int .i64 d.size, .func (.func g) #[] cb] w fun e w' => e = .returned (.tuple #[]) ∧ SW enc w blk off (Sort.insertionSort (ltOf cf) d 0 d.size) w' := by
  have hS : SW enc w blk off d w := SW.start R.hH
  have hc := Tryz.insertionSortCmpFunc_s enc cf g cb blk off cap 0 d.size d d w w eg hcmp R rfl hS (Nat.zero_le _) (Nat.le_refl _) (by omega)
  clear hS R hcmp eg
  go_enter Tryz.func86, Tryz.ntmps86
  go_wp2
  refine wp_loop_rounds 1 ?_
  rw [rounds_succ]
  go_wp2_with (go_at_call 92; refine hc.mono ?_; rintro e w1 ⟨rfl, hs⟩)
  refine wp_loop_rounds 1 ?_
  rw [rounds_succ]
  go_wp2
  go_end0
  exact ⟨rfl, hs⟩

set_option maxHeartbeats 2000000 in
theorem stable_any (enc : α → Value) (cf : α → α → Int) (g : Nat) (cb : Array Value) (blk off cap : Nat) (d : Array α) (w : World)
    (eg : ∀ args w, (callFunc g args).run Tryz.prog w = .ok (.enter g args) w) (hcmp : CmpLays1 Tryz.prog g cb enc cf blk off d.size w) (R : Row1 enc w blk off d) (h20 : d.size < 20) :
    Calls Tryz.prog 75 #[.slice (some ⟨blk, off, none⟩) d.size cap, .func (.func g) #[] cb] w fun e w' => e = .returned (.tuple #[]) ∧ SW enc w blk off (Sort.insertionSort (ltOf cf) d 0 d.size) w' := by
  have hc := stable60 enc cf g cb blk off cap d w eg hcmp R h20
  clear R hcmp eg
  go_enter Tryz.func75, Tryz.ntmps75
  go_wp2_with (go_at_call 86; refine hc.mono ?_; rintro e w1 ⟨rfl, hs⟩)
  go_end0
  exact ⟨rfl, hs⟩
end
end Go.Proofs.YtmgglcfndhfceaaGreatDoor
