/-
  Rows of ints in a block of the call's own: what reads, what is stored, what stays; make. No condition of its own.
-/
import Derived.Test.YtcdilaembophlaaGreatDoorPrTape3
import Derived.Laws.MakeOwn
import Derived.Laws.Rows
namespace Go.Proofs.YtcdilaembophlaaGreatDoor
open Go Go.RowKit Go.Lib
set_option linter.unusedVariables false

/-- Block b begins with n ints, f i at place i, none of them frozen. -/
structure RowI (w : World) (b n : Nat) (f : Nat → Int) : Prop where
  cell : ∀ i, i < n → w.cell? ⟨b, i, none⟩ = some (.int .i64 (f i))
  free : ∀ i, i < n → w.frozen? ⟨b, i, none⟩ = false
theorem RowI.keep {w w' : World} {b n : Nat} {f : Nat → Int} (h : RowI w b n f) (hb : w'.heap[b]? = w.heap[b]?) : RowI w' b n f :=
  ⟨fun i hi => (World.cell?_of_block (a := ⟨b, i, none⟩) hb).trans (h.cell i hi), fun i hi => (World.frozen?_of_block (a := ⟨b, i, none⟩) hb).trans (h.free i hi)⟩
theorem RowI.below {w w' : World} {b n B : Nat} {f : Nat → Int} (h : RowI w b n f) (hb : Below B w w') (hB : b < B) : RowI w' b n f := h.keep (hb.block b hB)
theorem RowI.alloc {w : World} {b n : Nat} {f : Nat → Int} (h : RowI w b n f) (hb : b < w.heap.size) (o : Obj) : RowI (w.alloc o) b n f :=
  h.below (Below.alloc (Below.refl _ _) (Nat.le_refl _) o) hb
theorem RowI.drewN {w : World} {b n : Nat} {f : Nat → Int} (h : RowI w b n f) (k : Nat) : RowI (w.drewN k) b n f := ⟨h.cell, h.free⟩
theorem RowI.far {w : World} {b n : Nat} {f : Nat → Int} (h : RowI w b n f) {p : Addr} (hp : p.block ≠ b) (v : Value) : RowI (w.setCell p v) b n f :=
  h.keep (Below.heap_setCell w p v b (fun e => hp e.symm))
theorem RowI.set {w : World} {b n : Nat} {f : Nat → Int} (h : RowI w b n f) {k : Nat} (hk : k < n) (v : Int) : RowI (w.setCell ⟨b, k, none⟩ (.int .i64 v)) b n (fun i => if i = k then v else f i) := by
  refine ⟨fun i hi => ?_, fun i hi => ?_⟩
  · by_cases e : i = k
    · subst e
      rw [if_pos rfl]
      exact World.cell?_setCell_same _ _ _ (h.cell i hi)
    · rw [if_neg e, World.cell?_setCell_other _ _ _ _ (by intro e'; simp only [Addr.mk.injEq] at e'; omega)]
      exact h.cell i hi
  · rw [World.frozen?_setCell]; exact h.free i hi
theorem RowI.congr {w : World} {b n : Nat} {f g : Nat → Int} (h : RowI w b n f) (e : ∀ i, i < n → f i = g i) : RowI w b n g :=
  ⟨fun i hi => by rw [← e i hi]; exact h.cell i hi, h.free⟩
theorem RowI.only {w w' : World} {b n c : Nat} {f : Nat → Int} (h : RowI w b n f) (ho : Tp.Only c w w') (hb : b < w.heap.size) (hn : b ≠ c) : RowI w' b n f := h.keep (ho.block b hb hn)

/-- What 'make' lays: n zeros. -/
def zerosN (n : Nat) : Array Value := madeCells (Value.int .i64 0).cells (n * 1)
theorem zeros_at (n i : Nat) (hi : i < n) : (zerosN n)[i]? = some (.int .i64 0) := by
  unfold zerosN madeCells
  simp [Value.cells, hi, Nat.mod_one]
theorem RowI.new (w : World) (n : Nat) (t : TypeId) : RowI (w.alloc (.cells (zerosN n) t)) w.heap.size n (fun _ => 0) :=
  ⟨fun i hi => by rw [World.cell?_alloc_at _ _ _ _ rfl]; exact zeros_at n i hi, fun i hi => World.frozen?_alloc_at _ _ _ _ rfl⟩
theorem info_int : (Tryz.prog.info? 3).map (fun i => (i.zero, i.size, i.bytes)) = some (some (.int .i64 0), 1, 8) := by kernel_rfl
theorem make_run (n : Nat) (hn : n ≤ 1000000) (w : World) :
    (Instr.makeSlice 22 (.int .i64 (n : Int)) (.int .i64 (n : Int))).run Tryz.prog w = .ok (.slice (some ⟨w.heap.size, 0, none⟩) n n) (w.alloc (.cells (zerosN n) 3)) := by
  obtain ⟨i0, hi, hz0, hz1, hz2⟩ := info_parts info_int
  have h := run_make (P := Tryz.prog) w 22 3 i0 (.int .i64 0) Tryz.underlying22 hi hz0 .i64 .i64 (n : Int) (n : Int) (by omega) (by omega) (by rw [hz2]; omega) (by omega)
  rw [hz1] at h
  simpa [zerosN] using h
end Go.Proofs.YtcdilaembophlaaGreatDoor
