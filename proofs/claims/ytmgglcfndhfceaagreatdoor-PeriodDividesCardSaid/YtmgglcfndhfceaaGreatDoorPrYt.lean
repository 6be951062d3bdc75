/-
  The generator's Calendar: whatever the tape holds, a pay calendar (valid, unless wild). Condition: the tape's block reads as a tape.
-/
import Derived.Test.YtmgglcfndhfceaaGreatDoorPrYk
import Derived.Test.YtmgglcfndhfceaaGreatDoorPrTp
namespace Go.Proofs.YtmgglcfndhfceaaGreatDoor.Tp
open Go Go.RowKit Go.Lib Go.Proofs.YtmgglcfndhfceaaGreatDoor Go.Proofs.YtmgglcfndhfceaaGreatDoor.Per
set_option linter.unusedVariables false

theorem four4 (w : World) (x y z q : Int) (t : TypeId) : ∀ i, i < ([x, y, z, q] : List Int).length → (w.alloc (.cells #[.int .i64 x, .int .i64 y, .int .i64 z, .int .i64 q] t)).cell? ⟨w.heap.size, i, none⟩ = some (.int .i64 (([x, y, z, q] : List Int).getD i 0)) := by
  intro i hi
  rcases i with _ | _ | _ | _ | i
  · go_simp
  · go_simp
  · go_simp
  · go_simp
  · simp at hi; omega
/-- The generator's calendar while it is made: its box, the result's box, the tape. -/
structure CG (w0 : World) (b rb cb : Nat) (k a : Int) (W : World) : Prop where
  box : Box2 W cb 27 k a
  res : Box2 W rb 27 0 0
  tape : TapeAt b W
  only : Only b w0 W
  lo : b < rb
  ne : rb < cb
  size : w0.heap.size ≤ rb
theorem CG.alloc {w0 W : World} {b rb cb : Nat} {k a : Int} (h : CG w0 b rb cb k a W) (o : Obj) : CG w0 b rb cb k a (W.alloc o) :=
  ⟨h.box.alloc o, h.res.alloc o, h.tape.alloc o, h.only.alloc o, h.lo, h.ne, h.size⟩
theorem CG.next {w0 W W' : World} {b rb cb : Nat} {k a : Int} (h : CG w0 b rb cb k a W) (hT : TapeAt b W') (hO : Only b W W') : CG w0 b rb cb k a W' :=
  ⟨(hO.block cb h.box.lt (by have := h.lo; have := h.ne; omega)).trans h.box, (hO.block rb h.res.lt (by have := h.lo; omega)).trans h.res, hT, h.only.trans hO, h.lo, h.ne, h.size⟩
theorem box_set1 {W : World} {k : Nat} {x y : Int} {t : TypeId} (h : Box2 W k t x y) (v : Int) : Box2 (W.setCell ⟨k, 1, none⟩ (.int .i64 v)) k t x v := by
  obtain ⟨hlt, hk⟩ := Array.getElem?_eq_some_iff.1 h
  show (W.heap.modify k _)[k]? = _
  rw [Array.getElem?_eq_getElem (by rw [Array.size_modify]; exact hlt), Array.getElem_modify_self, hk]
  rfl
theorem box_set0 {W : World} {k : Nat} {x y : Int} {t : TypeId} (h : Box2 W k t x y) (v : Int) : Box2 (W.setCell ⟨k, 0, none⟩ (.int .i64 v)) k t v y := by
  obtain ⟨hlt, hk⟩ := Array.getElem?_eq_some_iff.1 h
  show (W.heap.modify k _)[k]? = _
  rw [Array.getElem?_eq_getElem (by rw [Array.size_modify]; exact hlt), Array.getElem_modify_self, hk]
  rfl
theorem CG.set1 {w0 W : World} {b rb cb : Nat} {k a : Int} (h : CG w0 b rb cb k a W) (v : Int) : CG w0 b rb cb k v (W.setCell ⟨cb, 1, none⟩ (.int .i64 v)) :=
  ⟨box_set1 h.box v, (Below.heap_setCell W ⟨cb, 1, none⟩ _ rb (by have := h.ne; show rb ≠ cb; omega)).trans h.res, h.tape.far (by have := h.lo; have := h.ne; show b < cb; omega) _, h.only.setCell (.inr (by have := h.size; have := h.ne; show w0.heap.size ≤ cb; omega)) _, h.lo, h.ne, h.size⟩
theorem CG.set0 {w0 W : World} {b rb cb : Nat} {k a : Int} (h : CG w0 b rb cb k a W) (v : Int) : CG w0 b rb cb v a (W.setCell ⟨cb, 0, none⟩ (.int .i64 v)) :=
  ⟨box_set0 h.box v, (Below.heap_setCell W ⟨cb, 0, none⟩ _ rb (by have := h.ne; show rb ≠ cb; omega)).trans h.res, h.tape.far (by have := h.lo; have := h.ne; show b < cb; omega) _, h.only.setCell (.inr (by have := h.size; have := h.ne; show w0.heap.size ≤ cb; omega)) _, h.lo, h.ne, h.size⟩
theorem CG.fin {w0 W : World} {b rb cb : Nat} {k a : Int} (h : CG w0 b rb cb k a W) (u v : Value) : TapeAt b ((W.setCell ⟨rb, 0, none⟩ u).setCell ⟨rb, 1, none⟩ v) ∧ Only b w0 ((W.setCell ⟨rb, 0, none⟩ u).setCell ⟨rb, 1, none⟩ v) :=
  ⟨(h.tape.far h.lo _).far h.lo _, (h.only.setCell (.inr h.size) _).setCell (.inr h.size) _⟩

/-- What the generator's Calendar leaves. -/
def CalP (b : Nat) (wild : Bool) (w : World) (e : Ending) (w' : World) : Prop :=
  ∃ k a : Int, e = .returned (.agg #[.int .i64 k, .int .i64 a]) ∧ (wild = false → okP k a) ∧ -1 ≤ k ∧ k ≤ 4 ∧ -1 ≤ a ∧ a ≤ 14 ∧ TapeAt b w' ∧ Only b w w'
set_option maxRecDepth 100000 in
set_option maxHeartbeats 4000000 in
theorem tcal_any (b : Nat) (wild : Bool) (w : World) (h : TapeAt b w) :
    Calls Tryz.prog 5 #[.pointer (some ⟨b, 0, none⟩), .bool wild] w (CalP b wild w) := by
  have hb := h.lt
  rcases wild with _ | _
  · go_enter Tryz.func5, Tryz.ntmps5
    go_wp2_with fail
    refine (next_any b 4 (by omega) (by omega) _ (h.alloc _)).mono ?_
    rintro e w1 ⟨k, rfl, k0, k1, T1, O1⟩
    have hR := Box2.new w 27 0 0
    have hlt := hR.lt
    have G0 : CG w b w.heap.size w1.heap.size k 0 (w1.alloc (.cells #[.int .i64 k, .int .i64 0] 27)) :=
      ⟨Box2.new w1 _ k 0, Box2.alloc ((O1.block w.heap.size hlt (by omega)).trans hR) _, T1.alloc _, (((Only.refl b w).alloc _).trans O1).alloc _, hb, by have := O1.size; simp at this; omega, Nat.le_refl _⟩
    clear T1 O1 hR hlt h
    rcases (by omega : k = 0 ∨ k = 1 ∨ k = 2 ∨ k = 3) with rfl | rfl | rfl | rfl
    · have G1 := G0
      clear G0
      have G2 := G1
      have g0 := G2.box.c0
      have g1 := G2.box.c1
      have r0 := G2.res.c0
      have r1 := G2.res.c1
      have q0 := G2.res.f0
      have q1 := G2.res.f1
      go_wp2_with fail
      exact bodyPost_ret (v := .agg #[.int .i64 0, .int .i64 0]) (by simp [results, Tryz.results5, go_sem, r0, r1]) rfl ⟨0, 0, rfl, (fun _ => by unfold okP; omega), by omega, by omega, by omega, by omega, (G2.fin _ _).1, (G2.fin _ _).2⟩
    · have G1 := G0
      clear G0
      have G2 := G1
      have g0 := G2.box.c0
      have g1 := G2.box.c1
      have r0 := G2.res.c0
      have r1 := G2.res.c1
      have q0 := G2.res.f0
      have q1 := G2.res.f1
      go_wp2_with fail
      exact bodyPost_ret (v := .agg #[.int .i64 1, .int .i64 0]) (by simp [results, Tryz.results5, go_sem, r0, r1]) rfl ⟨1, 0, rfl, (fun _ => by unfold okP; omega), by omega, by omega, by omega, by omega, (G2.fin _ _).1, (G2.fin _ _).2⟩
    · have G1 := G0
      clear G0
      have g0 := G1.box.c0
      go_wp2_with fail
      refine (next_any b 14 (by omega) (by omega) _ G1.tape).mono ?_
      rintro e w2 ⟨a, rfl, a0, a1, T2, O2⟩
      have G2 := G1.next T2 O2
      have f1 := G2.box.f1
      have c1 := G2.box.c1
      replace G2 := G2.set1 a
      clear T2 O2 g0 G1
      have g0 := G2.box.c0
      have g1 := G2.box.c1
      have r0 := G2.res.c0
      have r1 := G2.res.c1
      have q0 := G2.res.f0
      have q1 := G2.res.f1
      go_wp2_with fail
      exact bodyPost_ret (v := .agg #[.int .i64 2, .int .i64 a]) (by simp [results, Tryz.results5, go_sem, r0, r1]) rfl ⟨2, a, rfl, (fun _ => by unfold okP; omega), by omega, by omega, by omega, by omega, (G2.fin _ _).1, (G2.fin _ _).2⟩
    · have G1 := G0
      clear G0
      have g0 := G1.box.c0
      go_wp2_with fail
      refine (next_any b 7 (by omega) (by omega) _ G1.tape).mono ?_
      rintro e w2 ⟨a, rfl, a0, a1, T2, O2⟩
      have G2 := G1.next T2 O2
      have f1 := G2.box.f1
      have c1 := G2.box.c1
      replace G2 := G2.set1 a
      clear T2 O2 g0 G1
      have g0 := G2.box.c0
      have g1 := G2.box.c1
      have r0 := G2.res.c0
      have r1 := G2.res.c1
      have q0 := G2.res.f0
      have q1 := G2.res.f1
      go_wp2_with fail
      exact bodyPost_ret (v := .agg #[.int .i64 3, .int .i64 a]) (by simp [results, Tryz.results5, go_sem, r0, r1]) rfl ⟨3, a, rfl, (fun _ => by unfold okP; omega), by omega, by omega, by omega, by omega, (G2.fin _ _).1, (G2.fin _ _).2⟩
  · go_enter Tryz.func5, Tryz.ntmps5
    go_wp2_with fail
    refine (next_any b 4 (by omega) (by omega) _ (h.alloc _)).mono ?_
    rintro e w1 ⟨k, rfl, k0, k1, T1, O1⟩
    have hR := Box2.new w 27 0 0
    have hlt := hR.lt
    have G0 : CG w b w.heap.size w1.heap.size k 0 (w1.alloc (.cells #[.int .i64 k, .int .i64 0] 27)) :=
      ⟨Box2.new w1 _ k 0, Box2.alloc ((O1.block w.heap.size hlt (by omega)).trans hR) _, T1.alloc _, (((Only.refl b w).alloc _).trans O1).alloc _, hb, by have := O1.size; simp at this; omega, Nat.le_refl _⟩
    clear T1 O1 hR hlt h
    rcases (by omega : k = 0 ∨ k = 1 ∨ k = 2 ∨ k = 3) with rfl | rfl | rfl | rfl
    · have G1 := G0
      clear G0
      have G2 := G1
      have g0 := G2.box.c0
      go_wp2_with fail
      refine (next_any b 8 (by omega) (by omega) _ G2.tape).mono ?_
      rintro e w3 ⟨v, rfl, v0, v1, T3, O3⟩
      replace G2 := G2.next T3 O3
      clear T3 O3 g0
      rcases hv : (v == 7) with _ | _
      · have g0 := G2.box.c0
        have g1 := G2.box.c1
        have r0 := G2.res.c0
        have r1 := G2.res.c1
        have q0 := G2.res.f0
        have q1 := G2.res.f1
        go_wp2_with fail
        exact bodyPost_ret (v := .agg #[.int .i64 0, .int .i64 0]) (by simp [results, Tryz.results5, go_sem, r0, r1]) rfl ⟨0, 0, rfl, (fun h => by cases h), by omega, by omega, by omega, by omega, (G2.fin _ _).1, (G2.fin _ _).2⟩
      · go_wp2_with fail
        refine (next_any b 6 (by omega) (by omega) _ G2.tape).mono ?_
        rintro e w4 ⟨x, rfl, x0, x1, T4, O4⟩
        replace G2 := G2.next T4 O4
        clear T4 O4
        go_wp2_with fail
        refine (pick_any b w4.heap.size [14, 7, -1, 1] (by simp) (by simp) (by have := G2.tape.lt; omega) _ (G2.tape.alloc _) (four4 w4 _ _ _ _ _)).mono ?_
        rintro e w5 ⟨y, rfl, m5, T5, O5⟩
        simp only [List.mem_cons, List.not_mem_nil, or_false] at m5
        have y0 : -1 ≤ y ∧ y ≤ 14 := by omega
        obtain ⟨y0, y1⟩ := y0
        replace G2 := (G2.alloc _).next T5 O5
        clear T5 O5 m5
        have f0 := G2.box.f0
        have f1 := G2.box.f1
        have c0 := G2.box.c0
        have c1 := G2.box.c1
        replace G2 := (G2.set0 (x - 1)).set1 y
        have g0 := G2.box.c0
        have g1 := G2.box.c1
        have r0 := G2.res.c0
        have r1 := G2.res.c1
        have q0 := G2.res.f0
        have q1 := G2.res.f1
        go_wp2_with fail
        exact bodyPost_ret (v := .agg #[.int .i64 (x - 1), .int .i64 y]) (by simp [results, Tryz.results5, go_sem, r0, r1]) rfl ⟨(x - 1), y, rfl, (fun h => by cases h), by omega, by omega, by omega, by omega, (G2.fin _ _).1, (G2.fin _ _).2⟩
    · have G1 := G0
      clear G0
      have G2 := G1
      have g0 := G2.box.c0
      go_wp2_with fail
      refine (next_any b 8 (by omega) (by omega) _ G2.tape).mono ?_
      rintro e w3 ⟨v, rfl, v0, v1, T3, O3⟩
      replace G2 := G2.next T3 O3
      clear T3 O3 g0
      rcases hv : (v == 7) with _ | _
      · have g0 := G2.box.c0
        have g1 := G2.box.c1
        have r0 := G2.res.c0
        have r1 := G2.res.c1
        have q0 := G2.res.f0
        have q1 := G2.res.f1
        go_wp2_with fail
        exact bodyPost_ret (v := .agg #[.int .i64 1, .int .i64 0]) (by simp [results, Tryz.results5, go_sem, r0, r1]) rfl ⟨1, 0, rfl, (fun h => by cases h), by omega, by omega, by omega, by omega, (G2.fin _ _).1, (G2.fin _ _).2⟩
      · go_wp2_with fail
        refine (next_any b 6 (by omega) (by omega) _ G2.tape).mono ?_
        rintro e w4 ⟨x, rfl, x0, x1, T4, O4⟩
        replace G2 := G2.next T4 O4
        clear T4 O4
        go_wp2_with fail
        refine (pick_any b w4.heap.size [14, 7, -1, 1] (by simp) (by simp) (by have := G2.tape.lt; omega) _ (G2.tape.alloc _) (four4 w4 _ _ _ _ _)).mono ?_
        rintro e w5 ⟨y, rfl, m5, T5, O5⟩
        simp only [List.mem_cons, List.not_mem_nil, or_false] at m5
        have y0 : -1 ≤ y ∧ y ≤ 14 := by omega
        obtain ⟨y0, y1⟩ := y0
        replace G2 := (G2.alloc _).next T5 O5
        clear T5 O5 m5
        have f0 := G2.box.f0
        have f1 := G2.box.f1
        have c0 := G2.box.c0
        have c1 := G2.box.c1
        replace G2 := (G2.set0 (x - 1)).set1 y
        have g0 := G2.box.c0
        have g1 := G2.box.c1
        have r0 := G2.res.c0
        have r1 := G2.res.c1
        have q0 := G2.res.f0
        have q1 := G2.res.f1
        go_wp2_with fail
        exact bodyPost_ret (v := .agg #[.int .i64 (x - 1), .int .i64 y]) (by simp [results, Tryz.results5, go_sem, r0, r1]) rfl ⟨(x - 1), y, rfl, (fun h => by cases h), by omega, by omega, by omega, by omega, (G2.fin _ _).1, (G2.fin _ _).2⟩
    · have G1 := G0
      clear G0
      have g0 := G1.box.c0
      go_wp2_with fail
      refine (next_any b 14 (by omega) (by omega) _ G1.tape).mono ?_
      rintro e w2 ⟨a, rfl, a0, a1, T2, O2⟩
      have G2 := G1.next T2 O2
      have f1 := G2.box.f1
      have c1 := G2.box.c1
      replace G2 := G2.set1 a
      clear T2 O2 g0 G1
      have g0 := G2.box.c0
      go_wp2_with fail
      refine (next_any b 8 (by omega) (by omega) _ G2.tape).mono ?_
      rintro e w3 ⟨v, rfl, v0, v1, T3, O3⟩
      replace G2 := G2.next T3 O3
      clear T3 O3 g0
      rcases hv : (v == 7) with _ | _
      · have g0 := G2.box.c0
        have g1 := G2.box.c1
        have r0 := G2.res.c0
        have r1 := G2.res.c1
        have q0 := G2.res.f0
        have q1 := G2.res.f1
        go_wp2_with fail
        exact bodyPost_ret (v := .agg #[.int .i64 2, .int .i64 a]) (by simp [results, Tryz.results5, go_sem, r0, r1]) rfl ⟨2, a, rfl, (fun h => by cases h), by omega, by omega, by omega, by omega, (G2.fin _ _).1, (G2.fin _ _).2⟩
      · go_wp2_with fail
        refine (next_any b 6 (by omega) (by omega) _ G2.tape).mono ?_
        rintro e w4 ⟨x, rfl, x0, x1, T4, O4⟩
        replace G2 := G2.next T4 O4
        clear T4 O4
        go_wp2_with fail
        refine (pick_any b w4.heap.size [14, 7, -1, 1] (by simp) (by simp) (by have := G2.tape.lt; omega) _ (G2.tape.alloc _) (four4 w4 _ _ _ _ _)).mono ?_
        rintro e w5 ⟨y, rfl, m5, T5, O5⟩
        simp only [List.mem_cons, List.not_mem_nil, or_false] at m5
        have y0 : -1 ≤ y ∧ y ≤ 14 := by omega
        obtain ⟨y0, y1⟩ := y0
        replace G2 := (G2.alloc _).next T5 O5
        clear T5 O5 m5
        have f0 := G2.box.f0
        have f1 := G2.box.f1
        have c0 := G2.box.c0
        have c1 := G2.box.c1
        replace G2 := (G2.set0 (x - 1)).set1 y
        have g0 := G2.box.c0
        have g1 := G2.box.c1
        have r0 := G2.res.c0
        have r1 := G2.res.c1
        have q0 := G2.res.f0
        have q1 := G2.res.f1
        go_wp2_with fail
        exact bodyPost_ret (v := .agg #[.int .i64 (x - 1), .int .i64 y]) (by simp [results, Tryz.results5, go_sem, r0, r1]) rfl ⟨(x - 1), y, rfl, (fun h => by cases h), by omega, by omega, by omega, by omega, (G2.fin _ _).1, (G2.fin _ _).2⟩
    · have G1 := G0
      clear G0
      have g0 := G1.box.c0
      go_wp2_with fail
      refine (next_any b 7 (by omega) (by omega) _ G1.tape).mono ?_
      rintro e w2 ⟨a, rfl, a0, a1, T2, O2⟩
      have G2 := G1.next T2 O2
      have f1 := G2.box.f1
      have c1 := G2.box.c1
      replace G2 := G2.set1 a
      clear T2 O2 g0 G1
      have g0 := G2.box.c0
      go_wp2_with fail
      refine (next_any b 8 (by omega) (by omega) _ G2.tape).mono ?_
      rintro e w3 ⟨v, rfl, v0, v1, T3, O3⟩
      replace G2 := G2.next T3 O3
      clear T3 O3 g0
      rcases hv : (v == 7) with _ | _
      · have g0 := G2.box.c0
        have g1 := G2.box.c1
        have r0 := G2.res.c0
        have r1 := G2.res.c1
        have q0 := G2.res.f0
        have q1 := G2.res.f1
        go_wp2_with fail
        exact bodyPost_ret (v := .agg #[.int .i64 3, .int .i64 a]) (by simp [results, Tryz.results5, go_sem, r0, r1]) rfl ⟨3, a, rfl, (fun h => by cases h), by omega, by omega, by omega, by omega, (G2.fin _ _).1, (G2.fin _ _).2⟩
      · go_wp2_with fail
        refine (next_any b 6 (by omega) (by omega) _ G2.tape).mono ?_
        rintro e w4 ⟨x, rfl, x0, x1, T4, O4⟩
        replace G2 := G2.next T4 O4
        clear T4 O4
        go_wp2_with fail
        refine (pick_any b w4.heap.size [14, 7, -1, 1] (by simp) (by simp) (by have := G2.tape.lt; omega) _ (G2.tape.alloc _) (four4 w4 _ _ _ _ _)).mono ?_
        rintro e w5 ⟨y, rfl, m5, T5, O5⟩
        simp only [List.mem_cons, List.not_mem_nil, or_false] at m5
        have y0 : -1 ≤ y ∧ y ≤ 14 := by omega
        obtain ⟨y0, y1⟩ := y0
        replace G2 := (G2.alloc _).next T5 O5
        clear T5 O5 m5
        have f0 := G2.box.f0
        have f1 := G2.box.f1
        have c0 := G2.box.c0
        have c1 := G2.box.c1
        replace G2 := (G2.set0 (x - 1)).set1 y
        have g0 := G2.box.c0
        have g1 := G2.box.c1
        have r0 := G2.res.c0
        have r1 := G2.res.c1
        have q0 := G2.res.f0
        have q1 := G2.res.f1
        go_wp2_with fail
        exact bodyPost_ret (v := .agg #[.int .i64 (x - 1), .int .i64 y]) (by simp [results, Tryz.results5, go_sem, r0, r1]) rfl ⟨(x - 1), y, rfl, (fun h => by cases h), by omega, by omega, by omega, by omega, (G2.fin _ _).1, (G2.fin _ _).2⟩
end Go.Proofs.YtmgglcfndhfceaaGreatDoor.Tp
