/-
  Layer 6 (timeline): the contracts of compare, of the closures of steps and value, and of cmp.Or on two numbers. No condition.
-/
import Derived.Test.YtdpgmjmmnjbbiaaPrTq
import Derived.Test.YtdpgmjmmnjbbiaaPrUm
import Derived.Test.YtdpgmjmmnjbbiaaShelf
import Derived.Shelf.SlSortCmp.QuietGrown
namespace Go.Proofs.Ytdpgmjmmnjbbiaa.Tl
open Go Go.RowKit Go.Lib Go.Sort Go.Shelf Go.Proofs Go.Proofs.Ytdpgmjmmnjbbiaa Go.Proofs.Ytdpgmjmmnjbbiaa.Tp
set_option linter.unusedVariables false

/-- It drew and laid blocks, nothing else. -/
def Gr (w w' : World) : Prop := ∃ q os, w' = grow (w.drewN q) os
theorem Gr.refl (w : World) : Gr w w := ⟨0, #[], by rw [grow_empty]; rfl⟩
theorem Gr.drewN {u w : World} (h : Gr u w) (n : Nat) : Gr u (w.drewN n) := by
  obtain ⟨q, os, rfl⟩ := h; exact ⟨q + n, os, by show grow ((u.drewN q).drewN n) os = _; rw [World.drewN_drewN]⟩
theorem Gr.drew {u w : World} (h : Gr u w) : Gr u w.drew := h.drewN 1
theorem Gr.grow {u w : World} (h : Gr u w) (os : Array Obj) : Gr u (Go.Sort.grow w os) := by
  obtain ⟨q, os', rfl⟩ := h; exact ⟨q, os' ++ os, by rw [grow_grow]⟩
theorem Gr.alloc {u w : World} (h : Gr u w) (o : Obj) : Gr u (w.alloc o) := by rw [alloc_eq_grow]; exact h.grow _
theorem Gr.trans {u v w : World} (h : Gr u v) (k : Gr v w) : Gr u w := by
  obtain ⟨q, os, rfl⟩ := k; exact (h.drewN q).grow os
theorem Gr.below {w w' : World} (h : Gr w w') : Below w.heap.size w w' := by
  obtain ⟨q, os, rfl⟩ := h
  refine ⟨rfl, rfl, rfl, ?_, fun k hk => ?_⟩
  · show w.heap.size ≤ (w.heap ++ os).size; simp
  · show (w.heap ++ os)[k]? = w.heap[k]?
    rw [Array.getElem?_append_left hk]

theorem cmpI_lib (x y : Int) : Lib.compareInt x y = cmpI x y := rfl
theorem comp_any (x y : Int) (w : World) : Calls Try.prog 47 #[.int .i64 x, .int .i64 y] w fun e w' => e = .returned (.int .i64 (cmpI x y)) ∧ w' = w :=
  Try.cmp_Compare_int x y w
theorem cmpI_bd (x y : Int) : -1 ≤ cmpI x y ∧ cmpI x y ≤ 1 := by unfold cmpI; split <;> (try split) <;> omega

set_option maxHeartbeats 1000000 in
theorem or_any (s : Nat) (x y : Int) (hx : -1 ≤ x ∧ x ≤ 1) (w : World) (c0 : w.cell? ⟨s, 0, none⟩ = some (.int .i64 x)) (c1 : w.cell? ⟨s, 1, none⟩ = some (.int .i64 y)) :
    Calls Try.prog 46 #[.slice (some ⟨s, 0, none⟩) 2 2] w fun e w' => e = .returned (.int .i64 (if x ≠ 0 then x else y)) ∧ w' = w := by
  go_enter Try.func46, Try.ntmps46
  go_wp2
  refine wp_loop_rounds 3 ?_
  rw [rounds_succ]
  by_cases h : x = 0
  · subst h
    go_wp2
    rw [rounds_succ]
    by_cases h : y = 0
    · subst h
      go_wp2
      rw [rounds_succ]
      go_wp2
      go_ret
      exact ⟨rfl, rfl⟩
    · have hy : (y != 0) = true := by simpa using h
      go_wp2
      go_ret
      exact ⟨rfl, rfl⟩
  · have hy : (x != 0) = true := by simpa using h
    go_wp2
    go_ret
    exact ⟨ret_int (by simp), rfl⟩

theorem cmpC_or (a b : Chg) : cmpC a b = if (if cmpI a.fr b.fr ≠ 0 then cmpI a.fr b.fr else cmpI a.kn b.kn) ≠ 0 then (if cmpI a.fr b.fr ≠ 0 then cmpI a.fr b.fr else cmpI a.kn b.kn) else if a.de = b.de then cmpI a.va b.va else if b.de then -1 else 1 := by
  unfold cmpC
  by_cases h : cmpI a.fr b.fr = 0
  · simp [h]
  · simp [h]
/-- A change as a value. -/
def vC (c : Chg) : Value := .agg #[.int .i64 c.fr, .int .i64 c.kn, .int .i64 c.va, .bool c.de]

set_option maxRecDepth 100000 in
set_option maxHeartbeats 2000000 in
theorem cmp_chg (a b : Chg) (w : World) : Calls Try.prog 29 #[vC a, vC b] w fun e w' => e = .returned (.int .i64 (cmpC a b)) ∧ Gr w w' := by
  rw [cmpC_or]
  obtain ⟨f, k, v, d⟩ := a
  obtain ⟨f', k', v', d'⟩ := b
  show Calls _ _ #[.agg #[.int .i64 f, .int .i64 k, .int .i64 v, .bool d], .agg #[.int .i64 f', .int .i64 k', .int .i64 v', .bool d']] w _
  simp only
  have C1 := Lib.hid (comp_any f f')
  have C2 := Lib.hid (comp_any k k')
  have C3 := Lib.hid (comp_any v v')
  have b1 := cmpI_bd f f'
  generalize cmpI f f' = n1 at *
  generalize cmpI k k' = n2 at *
  generalize cmpI v v' = n3 at *
  have CO := Lib.hid (fun s w c0 c1 => or_any s n1 n2 b1 w c0 c1)
  generalize (if n1 ≠ 0 then n1 else n2) = r at *
  clear b1
  go_enter Try.func29, Try.ntmps29
  go_wp2_with fail
  have G0 : Gr w ((w.alloc (.cells #[.int .i64 f, .int .i64 k, .int .i64 v, .bool d] 42)).alloc (.cells #[.int .i64 f', .int .i64 k', .int .i64 v', .bool d'] 42)) := ((Gr.refl w).alloc _).alloc _
  have k0 : ∀ W, Gr ((w.alloc (.cells #[.int .i64 f, .int .i64 k, .int .i64 v, .bool d] 42)).alloc (.cells #[.int .i64 f', .int .i64 k', .int .i64 v', .bool d'] 42)) W → W.cell? ⟨w.heap.size, 0, none⟩ = some (.int .i64 f) ∧ W.cell? ⟨w.heap.size, 1, none⟩ = some (.int .i64 k) ∧ W.cell? ⟨w.heap.size, 2, none⟩ = some (.int .i64 v) ∧ W.cell? ⟨w.heap.size, 3, none⟩ = some (.bool d) ∧
    W.cell? ⟨w.heap.size + 1, 0, none⟩ = some (.int .i64 f') ∧ W.cell? ⟨w.heap.size + 1, 1, none⟩ = some (.int .i64 k') ∧ W.cell? ⟨w.heap.size + 1, 2, none⟩ = some (.int .i64 v') ∧ W.cell? ⟨w.heap.size + 1, 3, none⟩ = some (.bool d') := fun W h => by
    have hb := h.below
    refine ⟨?_, ?_, ?_, ?_, ?_, ?_, ?_, ?_⟩ <;> refine (hb.cell (by first | (simp; done) | (simp; omega))).trans ?_ <;> go_simp
  have K0 := Lib.hid k0
  clear k0
  generalize hw1 : (w.alloc (.cells #[.int .i64 f, .int .i64 k, .int .i64 v, .bool d] 42)).alloc (.cells #[.int .i64 f', .int .i64 k', .int .i64 v', .bool d'] 42) = w1 at *
  clear hw1
  obtain ⟨e0, e1, _, _, e2, e3, _, _⟩ := K0.out _ (Gr.drew (Gr.refl w1))
  have g0 := fun o => (K0.out _ (Gr.drew (Gr.alloc (Gr.refl w1) o))).1
  have g1 := fun o => (K0.out _ (Gr.drew (Gr.alloc (Gr.refl w1) o))).2.1
  have g2 := fun o => (K0.out _ (Gr.drew (Gr.alloc (Gr.refl w1) o))).2.2.2.2.1
  have g3 := fun o => (K0.out _ (Gr.drew (Gr.alloc (Gr.refl w1) o))).2.2.2.2.2.1
  go_region_held3 (fun w' => w'.cell? ⟨w.heap.size, 0, none⟩ = some (.int .i64 f) ∧ w'.cell? ⟨w.heap.size, 1, none⟩ = some (.int .i64 k) ∧ w'.cell? ⟨w.heap.size + 1, 0, none⟩ = some (.int .i64 f') ∧ w'.cell? ⟨w.heap.size + 1, 1, none⟩ = some (.int .i64 k'))
    (first | (with_reducible exact ⟨e0, e1, e2, e3⟩) | (with_reducible exact ⟨g0 _, g1 _, g2 _, g3 _⟩))
    (first
      | (go_at_call 47; (with_reducible refine (C1.out _).mono ?_); rintro e w2 ⟨rfl, rfl⟩)
      | (go_at_call 47; (with_reducible refine (C2.out _).mono ?_); rintro e w2 ⟨rfl, rfl⟩)
      | (go_at_call 46; (with_reducible refine (CO.out _ _ ?_ ?_).mono ?_); (go_simp); (go_simp); rintro e w2 ⟨rfl, rfl⟩))
  obtain ⟨_, _, c2, c3, _, _, c2', c3'⟩ := K0.out _ (Gr.drew (Gr.alloc (Gr.refl w1) (.cells #[.int .i64 n1, .int .i64 n2] 3)))
  have G3 : Gr w (w1.alloc (.cells #[.int .i64 n1, .int .i64 n2] 3)).drew := Gr.drew (Gr.alloc G0 _)
  clear K0 e0 e1 e2 e3 g0 g1 g2 g3 G0
  generalize (w1.alloc (.cells #[.int .i64 n1, .int .i64 n2] 3)).drew = w3 at *
  by_cases h : r = 0
  · subst h
    cases d <;> cases d'
    · go_wp2_with (go_at_call 47; (with_reducible refine (C3.out _).mono ?_); rintro e w2 ⟨rfl, rfl⟩)
      go_ret
      exact ⟨by simp, G3⟩
    · go_wp2_with fail
      go_ret
      exact ⟨by simp, G3⟩
    · go_wp2_with fail
      go_ret
      exact ⟨by simp, G3⟩
    · go_wp2_with (go_at_call 47; (with_reducible refine (C3.out _).mono ?_); rintro e w2 ⟨rfl, rfl⟩)
      go_ret
      exact ⟨by simp, G3⟩
  · have hr0 : (r != 0) = true := by simpa using h
    go_wp2_with fail
    go_ret
    exact ⟨ret_int (by simp), G3⟩

theorem beq_dec (x y : Int) : (x == y) = decide (x = y) := by by_cases h : x = y <;> simp [h]
/-! ## The closures -/
set_option maxHeartbeats 1000000 in
theorem cl_known (p : Nat) (K : Int) (c : Chg) (w : World) (hp : w.cell? ⟨p, 0, none⟩ = some (.int .i64 K)) :
    Calls Try.prog 52 #[vC c, .pointer (some ⟨p, 0, none⟩)] w fun e w' => e = .returned (.bool (decide (K < c.kn))) ∧ Gr w w' := by
  have hl := World.block_lt_of_cell? w _ hp
  unfold vC
  go_enter Try.func52, Try.ntmps52
  go_wp2
  go_ret
  exact ⟨rfl, (Gr.refl w).alloc _⟩
set_option maxHeartbeats 1000000 in
theorem cl_desc (a b : Chg) (w : World) :
    Calls Try.prog 53 #[vC a, vC b] w fun e w' => e = .returned (.int .i64 (cmpC b a)) ∧ Gr w w' := by
  have C := Lib.hid (fun W => cmp_chg b a W)
  unfold vC at *
  go_enter Try.func53, Try.ntmps53
  go_wp2_with fail
  refine (C.out _).mono ?_
  rintro e w' ⟨rfl, hw'⟩
  have G := (((Gr.refl w).alloc (.cells #[.int .i64 a.fr, .int .i64 a.kn, .int .i64 a.va, .bool a.de] 42)).alloc (.cells #[.int .i64 b.fr, .int .i64 b.kn, .int .i64 b.va, .bool b.de] 42)).trans hw'
  go_wp2_with fail
  go_ret
  exact ⟨rfl, G⟩
set_option maxHeartbeats 1000000 in
theorem cl_from (a b : Chg) (w : World) :
    Calls Try.prog 55 #[vC a, vC b] w fun e w' => e = .returned (.bool (eqF a b)) ∧ Gr w w' := by
  unfold vC eqF
  go_enter Try.func55, Try.ntmps55
  go_wp2
  go_ret
  exact ⟨by simp [beq_dec], ((Gr.refl w).alloc _).alloc _⟩
set_option maxHeartbeats 1000000 in
theorem cl_del (a : Chg) (w : World) :
    Calls Try.prog 56 #[vC a] w fun e w' => e = .returned (.bool a.de) ∧ Gr w w' := by
  unfold vC
  go_enter Try.func56, Try.ntmps56
  go_wp2
  go_ret
  exact ⟨rfl, (Gr.refl w).alloc _⟩
set_option maxHeartbeats 1000000 in
theorem cl_val (a b : Chg) (w : World) :
    Calls Try.prog 58 #[vC a, vC b] w fun e w' => e = .returned (.bool (eqV a b)) ∧ Gr w w' := by
  unfold vC eqV
  go_enter Try.func58, Try.ntmps58
  go_wp2
  go_ret
  exact ⟨by simp [beq_dec], ((Gr.refl w).alloc _).alloc _⟩
set_option maxHeartbeats 1000000 in
theorem cl_find (a : Chg) (d : Int) (w : World) :
    Calls Try.prog 49 #[vC a, .int .i64 d] w fun e w' => e = .returned (.int .i64 (cmpI a.fr d)) ∧ Gr w w' := by
  have C := Lib.hid (comp_any a.fr d)
  unfold vC at *
  go_enter Try.func49, Try.ntmps49
  go_wp2_with fail
  refine (C.out _).mono ?_
  rintro e w' ⟨rfl, rfl⟩
  go_wp2_with fail
  go_ret
  exact ⟨rfl, (Gr.refl w).alloc _⟩
end Go.Proofs.Ytdpgmjmmnjbbiaa.Tl
