/-
  What a law's walk keeps while it draws: the tape, and all that was there before the call. Pick over a new list; Step. No condition of its own.
-/
import Derived.Test.YtnkpbkebbfelfaaPrTape3
namespace Go.Proofs.Ytnkpbkebbfelfaa.Tp
open Go Go.RowKit Go.Lib Go.Proofs.Ytnkpbkebbfelfaa
set_option linter.unusedVariables false

structure Kept (w : World) (b : Nat) (wr : World) : Prop where
  tape : TapeAt b wr
  below : Below w.heap.size w wr
  far : w.heap.size ≤ b
theorem Kept.only {w u v : World} {b : Nat} (h : Kept w b u) (hT : TapeAt b v) (hO : Only b u v) : Kept w b v := ⟨hT, h.below.trans (hO.below h.far h.below.size), h.far⟩
theorem Kept.more {w u v : World} {b : Nat} (h : Kept w b u) (hB : Below u.heap.size u v) : Kept w b v := ⟨h.tape.below hB, h.below.trans (hB.mono h.below.size), h.far⟩
theorem Kept.alloc {w u : World} {b : Nat} (h : Kept w b u) (o : Obj) : Kept w b (u.alloc o) := h.more (Below.alloc (Below.refl _ _) (Nat.le_refl _) o)
theorem Kept.drewN {w u : World} {b : Nat} (h : Kept w b u) (k : Nat) : Kept w b (u.drewN k) := h.more (below_drewN (Below.refl _ _) k)

theorem list_cells (w : World) (vs : List Int) (t : TypeId) : ∀ i, i < vs.length → (w.alloc (.cells (vs.map (Value.int .i64)).toArray t)).cell? ⟨w.heap.size, i, none⟩ = some (.int .i64 (vs.getD i 0)) := by
  intro i hi
  rw [World.cell?_alloc_at _ _ _ _ rfl]
  simp [hi]
/-- Pick over a list that has just been laid. -/
theorem pick_new (b : Nat) (vs : List Int) (hv : 1 ≤ vs.length) (hv1 : vs.length ≤ 100) (w : World) (t : TypeId) (s : Nat) (hs : s = w.heap.size) (h : TapeAt b w) :
    Calls Try.prog 13 #[.pointer (some ⟨b, 0, none⟩), .slice (some ⟨s, 0, none⟩) vs.length vs.length] (w.alloc (.cells (vs.map (Value.int .i64)).toArray t)) (PickR b vs w) := by
  subst hs
  refine (pick_any b w.heap.size vs hv hv1 (by have := h.lt; omega) _ (h.alloc _) (list_cells w vs t)).mono ?_
  rintro e w' ⟨v, he, hm, hT, hO⟩
  exact ⟨v, he, hm, hT, ((Only.refl b w).alloc _).trans hO⟩

def StepR (b : Nat) (w : World) (e : Ending) (w' : World) : Prop :=
  ∃ p q : Int, p ∈ ([1, 5, 1, 50, 1, 3, 100, 7] : List Int) ∧ q ∈ ([100, 1, 20, 100, 2, 1000, 1] : List Int) ∧ e = .returned (.agg #[.int .i64 (newT p q).1, .int .i64 (newT p q).2.1]) ∧ TapeAt b w' ∧ Only b w w'
set_option maxRecDepth 100000 in
set_option maxHeartbeats 4000000 in
theorem step_any (b : Nat) (w : World) (h : TapeAt b w) :
    Calls Try.prog 18 #[.pointer (some ⟨b, 0, none⟩)] w (StepR b w) := by
  have hb := h.lt
  have hne : w.heap.size ≠ b := by omega
  have R0 := Res.new w 0 0 35
  have T0 := TapeAt.alloc h (.cells #[.int .i64 0, .int .i64 0] 35)
  have HR := Lib.hid R0
  have HT := Lib.hid T0
  clear R0 T0
  go_enter Try.func18, Try.ntmps18
  go_wp2_with fail
  refine (pick_new b [1, 5, 1, 50, 1, 3, 100, 7] (by simp) (by simp) _ _ _ (by simp) HT.out).mono ?_
  rintro e w1 ⟨p, rfl, mp, T1, O1⟩
  have R1 := Lib.hid (HR.out.only hne O1)
  have O01 := Lib.hid (((Only.refl b w).alloc (.cells #[.int .i64 0, .int .i64 0] 35)).trans O1)
  have MP := Lib.hid mp
  clear O1 mp
  go_wp2_with fail
  refine (pick_new b [100, 1, 20, 100, 2, 1000, 1] (by simp) (by simp) _ _ _ (by simp) T1).mono ?_
  rintro e w2 ⟨q, rfl, mq, T2, O2⟩
  have R2 := Lib.hid (R1.out.only hne O2)
  have O02 := Lib.hid (O01.out.trans O2)
  have MQ := Lib.hid mq
  have bp : 1 ≤ p ∧ p ≤ 100 := by have := MP.out; simp only [List.mem_cons, List.not_mem_nil, or_false] at this; omega
  have bq : 1 ≤ q ∧ q ≤ 1000 := by have := MQ.out; simp only [List.mem_cons, List.not_mem_nil, or_false] at this; omega
  clear O2 mq T1
  go_wp2_with fail
  refine (rnew_any p q (by omega) (by omega) (by omega) (by omega) _).mono ?_
  rintro e w3 ⟨rfl, hw3⟩
  have R3 := R2.out.below hw3
  have O03 := Lib.hid (O02.out.trans (Only.of_below hw3))
  have T3 := Lib.hid (T2.below hw3)
  have z3 : w.heap.size < w3.heap.size := World.block_lt_of_cell? _ _ R3.c0
  obtain ⟨u0, u1, f0, f1⟩ := R3
  clear T2 hw3
  go_wp2_with fail
  refine bodyPost_ret (v := .agg #[.int .i64 (newT p q).1, .int .i64 (newT p q).2.1]) (by simp [results, Try.results18, go_sem, u0, u1, z3]) rfl ⟨p, q, MP.out, MQ.out, rfl, ?_, ?_⟩
  · exact ((T3.out.far (p := ⟨w.heap.size, 0, none⟩) hb _).far (p := ⟨w.heap.size, 1, none⟩) hb _).alloc _
  · exact ((O03.out.setCell (p := ⟨w.heap.size, 0, none⟩) (.inr (Nat.le_refl _)) _).setCell (p := ⟨w.heap.size, 1, none⟩) (.inr (Nat.le_refl _)) _).alloc _
end Go.Proofs.Ytnkpbkebbfelfaa.Tp
