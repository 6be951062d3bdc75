/-
  Layer 2 (rounding): the sanity check of the statements answers true. No condition of its own.
-/
import Derived.Test.YtgkjdaeihjedkaaPrAlloX
import Derived.Test.YtgkjdaeihjedkaaPrCarry
namespace Go.Proofs.Ytgkjdaeihjedkaa
open Go Go.RowKit Go.Lib Go.Sort Go.Shelf Go.Proofs
set_option linter.unusedVariables false

theorem sort_same {α : Type} [Inhabited α] {lt : α → α → Bool} (h : ∀ x y, lt x y = false) (d : Array α) (a b : Nat) : Sort.insertionSort lt d a b = d := by
  unfold Sort.insertionSort
  have key : ∀ n i, b - i = n → Sort.insOuter lt a b i d = d := by
    intro n
    induction n with
    | zero => intro i hi; exact insOuter_stop _ _ _ _ _ (by omega)
    | succ n ih =>
      intro i hi
      rw [insOuter_go _ _ _ _ _ (by omega), insInner_stop _ _ _ _ (.inr (h _ _))]
      exact ih _ (by omega)
  exact key _ _ rfl
theorem ord_same {n : Nat} [Inhabited (Fin n)] {T s : Int} {g : Nat → Int} {c : Int} (h : ∀ i, T * g i % s = c) {t : Nat} (ht : t < n) : ordAt T s g n t = t := by
  unfold ordAt ordF
  rw [sort_same (fun x y => by rw [cfF_lt, h, h]; simp), iota_at t ht]
theorem sane_cents1 : roundT 5 2 1 1 4 = (3, 1, 0) := by decide +kernel
theorem sane_cents2 : roundT (-5) 2 1 1 6 = (-2, 1, 0) := by decide +kernel
theorem sane_part : partT 10 1 4 1 6 = (2, 0) := by decide +kernel
theorem sane_miss : missK 100 3 (fun _ => 1) 3 = 1 := by decide +kernel
theorem sane_allo (i : Nat) : alloF (-100) 3 (fun _ => 1) 3 i = -(33 + if i = 0 then 1 else 0) := by
  unfold alloF
  rw [if_pos (by omega), show (-(-100) : Int) = 100 by rfl, sane_miss]
  unfold partF
  simp only [timesF]
  rw [ord_same (c := 1) (fun i => by decide) (by omega)]
  by_cases e : i = 0
  · subst e; simp [baseF]
  · rw [if_neg (fun h => e h.symm), if_neg e]; simp [baseF]
theorem add_flat (b o i : Nat) : (⟨b, o, none⟩ : Addr).add i = ⟨b, o + i, none⟩ := by unfold Addr.add; split <;> simp_all
theorem wrow3 (w : World) (t : TypeId) : WRow (w.alloc (.cells #[.int .i64 1, .int .i64 1, .int .i64 1] t)) ⟨w.heap.size, 0, none⟩ 3 (fun _ => 1) := by
  intro i hi
  rw [add_flat]
  rcases i with _ | _ | _ | i
  · go_simp
  · go_simp
  · go_simp
  · omega

set_option maxRecDepth 100000 in
set_option maxHeartbeats 4000000 in
theorem sane_any (w : World) : Calls Try.prog 11 #[] w fun e w' => e = .returned (.bool true) ∧ Below w.heap.size w w' := by
  go_enter Try.func11, Try.ntmps11
  go_wp2_with fail
  refine (cents_any 5 2 4 (by omega) (by omega) (by omega) (by omega) (by omega) (by omega) _).mono ?_
  rw [sane_cents1]
  rintro e w1 ⟨rfl, hw1⟩
  go_wp2_with fail
  refine (cents_any (-5) 2 6 (by omega) (by omega) (by omega) (by omega) (by omega) (by omega) _).mono ?_
  rw [sane_cents2]
  rintro e w2 ⟨rfl, hw2⟩
  have hB2 : Below w.heap.size w w2 := hw1.trans (hw2.mono hw1.size)
  go_wp2_with fail
  refine (alloc_pos 3 (-100) 3 ⟨w2.heap.size, 0, none⟩ 3 (fun _ => 1) (by omega) (by omega) (by omega) (fun _ _ => by omega) (fun _ _ => by omega) (by decide) (by omega) _ (by simp) (wrow3 w2 3)).mono ?_
  rintro e w3 ⟨rfl, hR, hw3⟩
  have hB3 : Below w.heap.size w w3 := (hB2.alloc hB2.size _).trans (hw3.mono (by have := hB2.size; simp; omega))
  have y0 := hR.cell 0 (by omega)
  have y2 := hR.cell 2 (by omega)
  rw [sane_allo] at y0 y2
  simp at y0 y2
  clear hR
  go_wp2_with fail
  refine (part_any 10 1 4 1 6 (by omega) (by omega) (by omega) (by omega) (by omega) (by omega) (by omega) (by omega) (by omega) (by omega) _).mono ?_
  rw [sane_part]
  rintro e w4 ⟨rfl, k, rfl⟩
  go_wp2_with fail
  go_ret
  exact ⟨rfl, below_drewN hB3 k⟩
end Go.Proofs.Ytgkjdaeihjedkaa
