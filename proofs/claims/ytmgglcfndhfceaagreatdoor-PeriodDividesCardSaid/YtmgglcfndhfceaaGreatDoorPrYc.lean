/-
  Layer 5 (period): contracts of Of, Span, Count. Conditions: the arguments fit their kinds; the table of month lengths reads as the program's text lays it.
-/
import Derived.Test.YtmgglcfndhfceaaGreatDoorPrYb
namespace Go.Proofs.YtmgglcfndhfceaaGreatDoor.Per
open Go Go.RowKit Go.Lib Go.Proofs.YtmgglcfndhfceaaGreatDoor Go.Proofs.YtmgglcfndhfceaaGreatDoor.Cal

def RetT (a c : Int) (w : World) (e : Ending) (w' : World) : Prop := e = .returned (.tuple #[.int .i64 a, .int .i64 c]) ∧ Below w.heap.size w w'
theorem RetT.of {a b c d : Int} {w w' : World} {e : Ending} (he : e = .returned (.tuple #[.int .i64 b, .int .i64 d])) (h1 : a = b) (h2 : c = d) (h : Below w.heap.size w w') : RetT a c w e w' := by subst h1 h2; exact ⟨he, h⟩
def RetS (x y c : Int) (w : World) (e : Ending) (w' : World) : Prop := e = .returned (.tuple #[.agg #[.int .i64 x, .int .i64 y], .int .i64 c]) ∧ Below w.heap.size w w'
theorem RetS.of {x y c x' y' c' : Int} {w w' : World} {e : Ending} (he : e = .returned (.tuple #[.agg #[.int .i64 x', .int .i64 y'], .int .i64 c'])) (h1 : x = x') (h2 : y = y') (h3 : c = c') (h : Below w.heap.size w w') : RetS x y c w e w' := by subst h1 h2 h3; exact ⟨he, h⟩

theorem pvalid_yes (k a : Int) (h : okP k a) (w : World) : Calls Tryz.prog 46 #[.agg #[.int .i64 k, .int .i64 a]] w (RetI 0 w) := by
  have := pvalid_any k a w
  rwa [show vE k a = 0 by unfold vE; rw [if_pos h]] at this
theorem pvalid_no (k a : Int) (h : ¬ okP k a) (w : World) : Calls Tryz.prog 46 #[.agg #[.int .i64 k, .int .i64 a]] w (RetI 2 w) := by
  have := pvalid_any k a w
  rwa [show vE k a = 2 by unfold vE; rw [if_neg h]] at this

/-! Of -/
set_option maxHeartbeats 1000000 in
theorem pof_bad (k a x : Int) (h : ¬ okP k a) (w : World) : Calls Tryz.prog 29 #[.agg #[.int .i64 k, .int .i64 a], .int .i64 x] w (RetT 0 2 w) := by
  have C1 := Lib.hid (pvalid_no k a h)
  go_enter Tryz.func29, Tryz.ntmps29
  go_wp2_with fail
  refine (C1.out _).mono ?_
  rintro e w1 ⟨rfl, hw1⟩
  go_wp2
  go_ret2
  exact RetT.of rfl rfl rfl (Below.trans ((Below.refl w.heap.size w).alloc (Nat.le_refl _) _) (hw1.mono (by simp)))
set_option maxHeartbeats 1000000 in
theorem pof_far (k a x : Int) (h : okP k a) (hx : x < 0 ∨ 84005 < x) (w : World) : Calls Tryz.prog 29 #[.agg #[.int .i64 k, .int .i64 a], .int .i64 x] w (RetT 0 2 w) := by
  have C1 := Lib.hid (pvalid_yes k a h)
  go_enter Tryz.func29, Tryz.ntmps29
  go_wp2_with fail
  refine (C1.out _).mono ?_
  rintro e w1 ⟨rfl, hw1⟩
  go_wp2_with (go_at_call 36; (with_reducible refine (pwithin_no _ _ _ hx _).mono ?_); rintro e w' ⟨rfl, rfl⟩)
  go_ret2
  exact RetT.of rfl rfl rfl (Below.trans ((Below.refl w.heap.size w).alloc (Nat.le_refl _) _) (hw1.mono (by simp)))
set_option maxRecDepth 100000 in
set_option maxHeartbeats 1000000 in
theorem pof_yes (k a x : Int) (h : okP k a) (h0 : 0 ≤ x) (h1 : x ≤ 84005) (w : World) (hl : LgIs w) : Calls Tryz.prog 29 #[.agg #[.int .i64 k, .int .i64 a], .int .i64 x] w (RetT (nO k a x) 0 w) := by
  have C1 := Lib.hid (pvalid_yes k a h)
  have C2 := Lib.hid (fun w hl => pnum_any k a x h h0 h1 w hl)
  generalize nO k a x = n at *
  go_enter Tryz.func29, Tryz.ntmps29
  go_wp2_with fail
  have R := Box2.new w 27 k a
  refine (C1.out _).mono ?_
  rintro e w1 ⟨rfl, hw1⟩
  have R1 := R.step hw1
  have hB1 : Below w.heap.size w w1 := Below.trans ((Below.refl w.heap.size w).alloc (Nat.le_refl _) _) (hw1.mono (by simp))
  have z0 := R1.c0
  have z1 := R1.c1
  have hl1 := hl.below hB1
  clear hw1 R
  go_wp2_with (first | (go_at_call 36; (with_reducible refine (pwithin_yes _ _ _ h0 h1 _).mono ?_); rintro e w' ⟨rfl, rfl⟩) | (go_at_call 47; refine (C2.out _ hl1).mono ?_; rintro e w2 ⟨rfl, hw2⟩))
  go_ret2
  exact RetT.of rfl rfl rfl (hB1.trans (hw2.mono hB1.size))
theorem pof_any (k a x : Int) (w : World) (hl : LgIs w) : Calls Tryz.prog 29 #[.agg #[.int .i64 k, .int .i64 a], .int .i64 x] w (RetT (ofV k a x) (ofE k a x) w) := by
  unfold ofV ofE
  by_cases h : okP k a
  · by_cases hx : 0 ≤ x ∧ x ≤ 84005
    · rw [if_pos ⟨h, hx⟩, if_pos h, if_pos hx]; exact pof_yes k a x h hx.1 hx.2 w hl
    · rw [if_neg (fun c => hx c.2), if_pos h, if_neg hx]; exact pof_far k a x h (by omega) w
  · rw [if_neg (fun c => h c.1), if_neg h]; exact pof_bad k a x h w

/-! Count -/
set_option maxHeartbeats 1000000 in
theorem pcount_bad (k a : Int) (h : ¬ okP k a) (w : World) : Calls Tryz.prog 30 #[.agg #[.int .i64 k, .int .i64 a]] w (RetI 0 w) := by
  have C1 := Lib.hid (pvalid_no k a h)
  go_enter Tryz.func30, Tryz.ntmps30
  go_wp2_with fail
  refine (C1.out _).mono ?_
  rintro e w1 ⟨rfl, hw1⟩
  go_wp2
  go_ret
  exact ⟨rfl, Below.trans ((Below.refl w.heap.size w).alloc (Nat.le_refl _) _) (hw1.mono (by simp))⟩
set_option maxRecDepth 100000 in
set_option maxHeartbeats 1000000 in
theorem pcount_yes (k a : Int) (h : okP k a) (w : World) (hl : LgIs w) : Calls Tryz.prog 30 #[.agg #[.int .i64 k, .int .i64 a]] w (RetI (cnt k a) w) := by
  have C1 := Lib.hid (pvalid_yes k a h)
  have C2 := Lib.hid (fun w hl => pnum_any k a 84005 h (by omega) (by omega) w hl)
  have E := Lib.hid (show cnt k a = nO k a 84005 + 1 from rfl)
  have B := nO_in k a 84005 (by omega) (by omega)
  have B2 := cnt_bd k a
  obtain ⟨n0, n1, _, _⟩ := B
  obtain ⟨_, n2⟩ := B2
  have n3 : nO k a 84005 ≤ 12003 := by omega
  clear n1 n2
  generalize nO k a 84005 = n at *
  go_enter Tryz.func30, Tryz.ntmps30
  go_wp2_with fail
  have R := Box2.new w 27 k a
  refine (C1.out _).mono ?_
  rintro e w1 ⟨rfl, hw1⟩
  have R1 := R.step hw1
  have hB1 : Below w.heap.size w w1 := Below.trans ((Below.refl w.heap.size w).alloc (Nat.le_refl _) _) (hw1.mono (by simp))
  have z0 := R1.c0
  have z1 := R1.c1
  have hl1 := hl.below hB1
  clear hw1 R
  go_wp2_with (go_at_call 47; refine (C2.out _ hl1).mono ?_; rintro e w2 ⟨rfl, hw2⟩)
  go_ret
  exact RetI.of rfl E.out (hB1.trans (hw2.mono hB1.size))
theorem pcount_any (k a : Int) (w : World) (hl : LgIs w) : Calls Tryz.prog 30 #[.agg #[.int .i64 k, .int .i64 a]] w (RetI (cnV k a) w) := by
  unfold cnV
  by_cases h : okP k a
  · rw [if_pos h]; exact pcount_yes k a h w hl
  · rw [if_neg h]; exact pcount_bad k a h w

/-! Span -/
/-- The box of the calendar and that of the result. -/
structure SpI (w : World) (k a : Int) (wr : World) : Prop where
  box : Box2 wr w.heap.size 27 k a
  res : Box2 wr (w.heap.size + 1) 34 0 0
  below : Below w.heap.size w wr
theorem SpI.step {w wr w' : World} {k a : Int} (h : SpI w k a wr) (hb : Below wr.heap.size wr w') : SpI w k a w' :=
  ⟨h.box.step hb, h.res.step hb, h.below.trans (hb.mono h.below.size)⟩
theorem SpI.drew {w wr : World} {k a : Int} (h : SpI w k a wr) : SpI w k a wr.drew := ⟨h.box, h.res, h.below.drew⟩
theorem SpI.drewN {w wr : World} {k a : Int} (h : SpI w k a wr) (n : Nat) : SpI w k a (wr.drewN n) := ⟨h.box, h.res, below_drewN h.below n⟩
theorem SpI.new (w : World) (k a : Int) : SpI w k a ((w.alloc (.cells #[.int .i64 k, .int .i64 a] 27)).alloc (.cells #[.int .i64 0, .int .i64 0] 34)) := by
  refine ⟨(Box2.new w _ k a).alloc _, ?_, ((Below.refl _ _).alloc (Nat.le_refl _) _).alloc (by simp) _⟩
  have := Box2.new (w.alloc (.cells #[.int .i64 k, .int .i64 a] 27)) 34 0 0
  rwa [World.size_alloc] at this
theorem SpI.fin {w wr : World} {k a : Int} (h : SpI w k a wr) (u v : Value) : Below w.heap.size w ((wr.setCell ⟨w.heap.size + 1, 0, none⟩ u).setCell ⟨w.heap.size + 1, 1, none⟩ v) :=
  (h.below.setCell (Nat.le_succ _) u).setCell (Nat.le_succ _) v
theorem SpI.fina {w wr : World} {k a : Int} (h : SpI w k a wr) (u v : Value) (o : Obj) : Below w.heap.size w (((wr.setCell ⟨w.heap.size + 1, 0, none⟩ u).setCell ⟨w.heap.size + 1, 1, none⟩ v).alloc o) :=
  (h.fin u v).alloc (h.fin u v).size o
theorem SpI.read {w wr : World} {k a : Int} (h : SpI w k a wr) (u v : Value) : ((wr.setCell ⟨w.heap.size + 1, 0, none⟩ u).setCell ⟨w.heap.size + 1, 1, none⟩ v).cell? ⟨w.heap.size + 1, 0, none⟩ = some u ∧ ((wr.setCell ⟨w.heap.size + 1, 0, none⟩ u).setCell ⟨w.heap.size + 1, 1, none⟩ v).cell? ⟨w.heap.size + 1, 1, none⟩ = some v := by
  have r0 := h.res.c0
  have r1 := h.res.c1
  exact ⟨by simp [go_sem, r0], by simp [go_sem, r1]⟩
theorem SpI.reada {w wr : World} {k a : Int} (h : SpI w k a wr) (u v : Value) (o : Obj) : (((wr.setCell ⟨w.heap.size + 1, 0, none⟩ u).setCell ⟨w.heap.size + 1, 1, none⟩ v).alloc o).cell? ⟨w.heap.size + 1, 0, none⟩ = some u ∧ (((wr.setCell ⟨w.heap.size + 1, 0, none⟩ u).setCell ⟨w.heap.size + 1, 1, none⟩ v).alloc o).cell? ⟨w.heap.size + 1, 1, none⟩ = some v := by
  have hc := fun (p : Addr) (x : Value) (hp : ((wr.setCell ⟨w.heap.size + 1, 0, none⟩ u).setCell ⟨w.heap.size + 1, 1, none⟩ v).cell? p = some x) => ((Below.alloc (Below.refl _ _) (Nat.le_refl _) o).cell (World.block_lt_of_cell? _ p hp)).trans hp
  exact ⟨hc _ _ (h.read u v).1, hc _ _ (h.read u v).2⟩
set_option maxRecDepth 100000 in
set_option maxHeartbeats 1000000 in
theorem pspan_bad (k a n : Int) (h : ¬ okP k a) (w : World) : Calls Tryz.prog 28 #[.agg #[.int .i64 k, .int .i64 a], .int .i64 n] w (RetS 0 0 2 w) := by
  have C1 := Lib.hid (pvalid_no k a h)
  have I0 := SpI.new w k a
  go_enter Tryz.func28, Tryz.ntmps28
  go_wp2_with fail
  refine (C1.out _).mono ?_
  rintro e w1 ⟨rfl, hw1⟩
  have I1 := I0.step hw1
  have r0 := I1.res.c0
  have r1 := I1.res.c1
  have q0 := I1.res.f0
  have q1 := I1.res.f1
  clear hw1 I0
  go_wp2_with fail
  exact bodyPost_ret (v := .tuple #[.agg #[.int .i64 0, .int .i64 0], .int .i64 2]) (by simp [results, Tryz.results28, go_sem, r0, r1]) rfl (by with_reducible exact RetS.of rfl rfl rfl rfl (SpI.fin (by assumption) _ _))
set_option maxRecDepth 100000 in
set_option maxHeartbeats 1000000 in
theorem pspan_far (k a n : Int) (h : okP k a) (hn : n < 0 ∨ cnt k a - 1 < n) (w : World) (hl : LgIs w) : Calls Tryz.prog 28 #[.agg #[.int .i64 k, .int .i64 a], .int .i64 n] w (RetS 0 0 2 w) := by
  have C1 := Lib.hid (pvalid_yes k a h)
  have C2 := Lib.hid (fun w hl => pnum_any k a 84005 h (by omega) (by omega) w hl)
  rw [show cnt k a - 1 = nO k a 84005 by unfold cnt; omega] at hn
  generalize nO k a 84005 = N at *
  have I0 := SpI.new w k a
  go_enter Tryz.func28, Tryz.ntmps28
  go_wp2_with fail
  refine (C1.out _).mono ?_
  rintro e w1 ⟨rfl, hw1⟩
  have I1 := I0.step hw1
  have z0 := I1.box.c0
  have z1 := I1.box.c1
  have hl1 := hl.below I1.below
  clear hw1 I0
  go_wp2_with fail
  refine (C2.out _ hl1).mono ?_
  rintro e w2 ⟨rfl, hw2⟩
  have I2 := I1.step hw2
  clear hw2 z0 z1 hl1 I1
  have r0 := I2.res.c0
  have r1 := I2.res.c1
  have q0 := I2.res.f0
  have q1 := I2.res.f1
  go_wp2_with (go_at_call 36; (with_reducible refine (pwithin_no _ _ _ hn _).mono ?_); rintro e w' ⟨rfl, rfl⟩)
  exact bodyPost_ret (v := .tuple #[.agg #[.int .i64 0, .int .i64 0], .int .i64 2]) (by simp [results, Tryz.results28, go_sem, r0, r1]) rfl (by with_reducible exact RetS.of rfl rfl rfl rfl (SpI.fin (by assumption) _ _))
set_option maxRecDepth 100000 in
set_option maxHeartbeats 2000000 in
theorem pspan_m (a n : Int) (h : okP 0 a) (n0 : 0 ≤ n) (hn : n < cnt 0 a) (w : World) (hl : LgIs w) : Calls Tryz.prog 28 #[.agg #[.int .i64 0, .int .i64 a], .int .i64 n] w (RetS (sF 0 a n) (sT 0 a n) 0 w) := by
  have C1 := Lib.hid (pvalid_yes 0 a h)
  have C2 := Lib.hid (fun w hl => pnum_any 0 a 84005 h (by omega) (by omega) w hl)
  have hn' : n ≤ nO 0 a 84005 := by unfold cnt at hn; omega
  have n1 : n ≤ 2759 := by rw [cnt_0] at hn; omega
  have C3 := Lib.hid (fun w hl => pmonth_any n n0 n1 w hl)
  have E1 := Lib.hid (sF_0 a n)
  have E2 := Lib.hid (sT_0 a n)
  generalize fst n = f at *
  generalize len n = l at *
  clear hn h
  generalize nO 0 a 84005 = N at *
  have I0 := SpI.new w 0 a
  go_enter Tryz.func28, Tryz.ntmps28
  go_wp2_with fail
  refine (C1.out _).mono ?_
  rintro e w1 ⟨rfl, hw1⟩
  have I1 := I0.step hw1
  have z0 := I1.box.c0
  have z1 := I1.box.c1
  have hl1 := hl.below I1.below
  clear hw1 I0
  go_wp2_with fail
  refine (C2.out _ hl1).mono ?_
  rintro e w2 ⟨rfl, hw2⟩
  have I2 := I1.step hw2
  clear hw2 z0 z1 hl1 I1
  have z0 := I2.box.c0
  have z1 := I2.box.c1
  have hl2 := hl.below I2.below
  go_wp2_with (go_at_call 36; (with_reducible refine (pwithin_yes _ _ _ n0 hn' _).mono ?_); rintro e w' ⟨rfl, rfl⟩)
  refine (C3.out _ hl2).mono ?_
  rintro e w3 ⟨rfl, hw3⟩
  have I3 := I2.step hw3
  clear hw3 z0 z1 hl2 I2
  have r0 := I3.res.c0
  have r1 := I3.res.c1
  have q0 := I3.res.f0
  have q1 := I3.res.f1
  go_wp2_with fail
  exact bodyPost_ret (v := .tuple #[.agg #[.int .i64 f, .int .i64 (f + l - 1)], .int .i64 0]) (by simp [results, Tryz.results28, go_sem, r0, r1]) rfl (by with_reducible exact RetS.of rfl E1.out E2.out rfl (SpI.fin (by assumption) _ _))
set_option maxRecDepth 100000 in
set_option maxHeartbeats 2000000 in
theorem pspan_h0 (a n : Int) (h : okP 1 a) (n0 : 0 ≤ n) (hn : n < cnt 1 a) (hp : n % 2 = 0) (w : World) (hl : LgIs w) : Calls Tryz.prog 28 #[.agg #[.int .i64 1, .int .i64 a], .int .i64 n] w (RetS (sF 1 a n) (sT 1 a n) 0 w) := by
  have C1 := Lib.hid (pvalid_yes 1 a h)
  have C2 := Lib.hid (fun w hl => pnum_any 1 a 84005 h (by omega) (by omega) w hl)
  have hn' : n ≤ nO 1 a 84005 := by unfold cnt at hn; omega
  have n1 : n ≤ 5519 := by rw [cnt_1] at hn; omega
  have C3 := Lib.hid (fun w hl => pmonth_any (n / 2) (by omega) (by omega) w hl)
  obtain ⟨f0, f1, f2, f3⟩ := fst_le (n / 2) (by omega) (by omega)
  have E1 := Lib.hid (show sF 1 a n = fst (n / 2) by rw [sF_1]; rw [if_pos hp])
  have E2 := Lib.hid (show sT 1 a n = fst (n / 2) + 15 - 1 by rw [sT_1]; rw [if_pos hp]; omega)
  generalize fst (n / 2) = f at *
  generalize len (n / 2) = l at *
  have tp : (n % 2 == 0) = true := by simp; omega
  clear hn h
  generalize nO 1 a 84005 = N at *
  have I0 := SpI.new w 1 a
  go_enter Tryz.func28, Tryz.ntmps28
  go_wp2_with fail
  refine (C1.out _).mono ?_
  rintro e w1 ⟨rfl, hw1⟩
  have I1 := I0.step hw1
  have z0 := I1.box.c0
  have z1 := I1.box.c1
  have hl1 := hl.below I1.below
  clear hw1 I0
  go_wp2_with fail
  refine (C2.out _ hl1).mono ?_
  rintro e w2 ⟨rfl, hw2⟩
  have I2 := I1.step hw2
  clear hw2 z0 z1 hl1 I1
  have z0 := I2.box.c0
  have z1 := I2.box.c1
  have hl2 := hl.below I2.below
  go_wp2_with (go_at_call 36; (with_reducible refine (pwithin_yes _ _ _ n0 hn' _).mono ?_); rintro e w' ⟨rfl, rfl⟩)
  refine (C3.out _ hl2).mono ?_
  rintro e w3 ⟨rfl, hw3⟩
  have I3 := I2.step hw3
  have sz3 : w.heap.size + 1 < w3.heap.size := I3.res.lt
  clear hw3 z0 z1 hl2 I2
  have r0 := I3.res.c0
  have r1 := I3.res.c1
  have q0 := I3.res.f0
  have q1 := I3.res.f1
  go_wp2_with fail
  exact bodyPost_ret (v := .tuple #[.agg #[.int .i64 f, .int .i64 (f + 15 - 1)], .int .i64 0]) (by simp [results, Tryz.results28, go_sem, (I3.reada (.int .i64 f) (.int .i64 (f + 15 - 1)) (.cells #[.int .i64 f, .int .i64 (f + 15 - 1)] 34)).1, (I3.reada (.int .i64 f) (.int .i64 (f + 15 - 1)) (.cells #[.int .i64 f, .int .i64 (f + 15 - 1)] 34)).2]) rfl (by with_reducible exact RetS.of rfl E1.out E2.out rfl (SpI.fina (by assumption) _ _ _))
set_option maxRecDepth 100000 in
set_option maxHeartbeats 2000000 in
theorem pspan_h1 (a n : Int) (h : okP 1 a) (n0 : 0 ≤ n) (hn : n < cnt 1 a) (hp : ¬ n % 2 = 0) (w : World) (hl : LgIs w) : Calls Tryz.prog 28 #[.agg #[.int .i64 1, .int .i64 a], .int .i64 n] w (RetS (sF 1 a n) (sT 1 a n) 0 w) := by
  have C1 := Lib.hid (pvalid_yes 1 a h)
  have C2 := Lib.hid (fun w hl => pnum_any 1 a 84005 h (by omega) (by omega) w hl)
  have hn' : n ≤ nO 1 a 84005 := by unfold cnt at hn; omega
  have n1 : n ≤ 5519 := by rw [cnt_1] at hn; omega
  have C3 := Lib.hid (fun w hl => pmonth_any (n / 2) (by omega) (by omega) w hl)
  obtain ⟨f0, f1, f2, f3⟩ := fst_le (n / 2) (by omega) (by omega)
  have E1 := Lib.hid (show sF 1 a n = fst (n / 2) + 15 by rw [sF_1]; rw [if_neg hp])
  have E2 := Lib.hid (show sT 1 a n = fst (n / 2) + len (n / 2) - 1 by rw [sT_1]; rw [if_neg hp])
  generalize fst (n / 2) = f at *
  generalize len (n / 2) = l at *
  have tp : (n % 2 == 0) = false := by simp; omega
  clear hn h
  generalize nO 1 a 84005 = N at *
  have I0 := SpI.new w 1 a
  go_enter Tryz.func28, Tryz.ntmps28
  go_wp2_with fail
  refine (C1.out _).mono ?_
  rintro e w1 ⟨rfl, hw1⟩
  have I1 := I0.step hw1
  have z0 := I1.box.c0
  have z1 := I1.box.c1
  have hl1 := hl.below I1.below
  clear hw1 I0
  go_wp2_with fail
  refine (C2.out _ hl1).mono ?_
  rintro e w2 ⟨rfl, hw2⟩
  have I2 := I1.step hw2
  clear hw2 z0 z1 hl1 I1
  have z0 := I2.box.c0
  have z1 := I2.box.c1
  have hl2 := hl.below I2.below
  go_wp2_with (go_at_call 36; (with_reducible refine (pwithin_yes _ _ _ n0 hn' _).mono ?_); rintro e w' ⟨rfl, rfl⟩)
  refine (C3.out _ hl2).mono ?_
  rintro e w3 ⟨rfl, hw3⟩
  have I3 := I2.step hw3
  have sz3 : w.heap.size + 1 < w3.heap.size := I3.res.lt
  clear hw3 z0 z1 hl2 I2
  have r0 := I3.res.c0
  have r1 := I3.res.c1
  have q0 := I3.res.f0
  have q1 := I3.res.f1
  go_wp2_with fail
  exact bodyPost_ret (v := .tuple #[.agg #[.int .i64 (f + 15), .int .i64 (f + l - 1)], .int .i64 0]) (by simp [results, Tryz.results28, go_sem, (I3.reada (.int .i64 (f + 15)) (.int .i64 (f + l - 1)) (.cells #[.int .i64 (f + 15), .int .i64 (f + l - 1)] 34)).1, (I3.reada (.int .i64 (f + 15)) (.int .i64 (f + l - 1)) (.cells #[.int .i64 (f + 15), .int .i64 (f + l - 1)] 34)).2]) rfl (by with_reducible exact RetS.of rfl E1.out E2.out rfl (SpI.fina (by assumption) _ _ _))
set_option maxRecDepth 100000 in
set_option maxHeartbeats 4000000 in
theorem pspan_w (k a n : Int) (hk : k = 2 ∨ k = 3) (h : okP k a) (a0 : 0 ≤ a) (a1 : a ≤ L k) (n0 : 0 ≤ n) (hn : n < cnt k a) (w : World) (hl : LgIs w) : Calls Tryz.prog 28 #[.agg #[.int .i64 k, .int .i64 a], .int .i64 n] w (RetS (sF k a n) (sT k a n) 0 w) := by
  have C1 := Lib.hid (pvalid_yes k a h)
  have C2 := Lib.hid (fun w hl => pnum_any k a 84005 h (by omega) (by omega) w hl)
  have C3 := Lib.hid (plen_any k a)
  have C4 := Lib.hid (pbef_any k a a0 a1)
  have hn' : n ≤ nO k a 84005 := by unfold cnt at hn; omega
  have E1 := Lib.hid (sF_w k a n (by omega) (by omega))
  have E2 := Lib.hid (sT_w k a n (by omega) (by omega))
  have hb := bef_bd k a
  have hc := cnt_bd k a
  have l0 : 7 ≤ L k := by have := L_bd k; omega
  have l1 : L k ≤ 14 := by have := L_bd k; omega
  have n1 : n ≤ 12003 := by omega
  obtain ⟨b0, b1⟩ := hb
  have t0 : (k == 0) = false := beqF (by omega)
  have t1 : (k == 1) = false := beqF (by omega)
  clear hn h hc hk
  generalize nO k a 84005 = N at *
  generalize L k = l at *
  generalize bef k a = b at *
  have m0 : 0 ≤ n * l := Int.mul_nonneg n0 (by omega)
  have m1 : n * l ≤ 12003 * 14 := Int.mul_le_mul n1 l1 (by omega) (by omega)
  have e1 : IntKind.i64.wrap (n * l) = n * l := IntWalk.i64_in _ (by omega)
  have e2 : IntKind.i64.wrap (n * l - b) = n * l - b := IntWalk.i64_in _ (by omega)
  have I0 := SpI.new w k a
  go_enter Tryz.func28, Tryz.ntmps28
  go_wp2_with fail
  refine (C1.out _).mono ?_
  rintro e w1 ⟨rfl, hw1⟩
  have I1 := I0.step hw1
  have z0 := I1.box.c0
  have z1 := I1.box.c1
  have hl1 := hl.below I1.below
  clear hw1 I0
  go_wp2_with fail
  refine (C2.out _ hl1).mono ?_
  rintro e w2 ⟨rfl, hw2⟩
  have I2 := I1.step hw2
  clear hw2 z0 z1 hl1 I1
  have z0 := I2.box.c0
  have z1 := I2.box.c1
  go_wp2_with (go_at_call 36; (with_reducible refine (pwithin_yes _ _ _ n0 hn' _).mono ?_); rintro e w' ⟨rfl, rfl⟩)
  go_region_held3 (fun w' => w'.cell? ⟨w.heap.size, 0, none⟩ = some (.int .i64 k) ∧ w'.cell? ⟨w.heap.size, 1, none⟩ = some (.int .i64 a) ∧ SpI w k a w')
    (first | exact ⟨z0, z1, I2.drew⟩ | exact ⟨I3.box.c0, I3.box.c1, I3⟩)
    (first
      | (go_at_call 49; go_split_ands; refine (C3.out _).mono ?_; rintro e w3 ⟨rfl, hw3⟩; (have I3 : SpI w k a w3 := SpI.step (by assumption) hw3))
      | (go_at_call 50; go_split_ands; refine (C4.out _).mono ?_; rintro e w3 ⟨rfl, hw3⟩; (have I3 : SpI w k a w3 := SpI.step (by assumption) hw3)))
  go_split_ands
  have I4 := I3
  clear z0 z1 I2 C4 e1 e2 hw3 I3
  have z0 := I4.box.c0
  have z1 := I4.box.c1
  generalize n * l = p at *
  go_wp2_with fail
  refine (C3.out _).mono ?_
  rintro e w5 ⟨rfl, hw5⟩
  have I5 := I4.step hw5
  clear hw5 z0 z1 I4
  have r0 := I5.res.c0
  have r1 := I5.res.c1
  have q0 := I5.res.f0
  have q1 := I5.res.f1
  go_wp2_with fail
  exact bodyPost_ret (v := .tuple #[.agg #[.int .i64 (max 0 (p - b)), .int .i64 (min 84005 (p - b + l - 1))], .int .i64 0]) (by simp [results, Tryz.results28, go_sem, r0, r1]) rfl (by with_reducible exact RetS.of rfl E1.out E2.out rfl (SpI.fin I5 _ _))
theorem pspan_yes (k a n : Int) (h : spP k a n) (w : World) (hl : LgIs w) : Calls Tryz.prog 28 #[.agg #[.int .i64 k, .int .i64 a], .int .i64 n] w (RetS (sF k a n) (sT k a n) 0 w) := by
  obtain ⟨h, n0, n1⟩ := h
  by_cases e0 : k = 0
  · subst e0; exact pspan_m a n h n0 n1 w hl
  · by_cases e1 : k = 1
    · subst e1
      by_cases hp : n % 2 = 0
      · exact pspan_h0 a n h n0 n1 hp w hl
      · exact pspan_h1 a n h n0 n1 hp w hl
    · have : (k = 2 ∧ a ≤ 13) ∨ (k = 3 ∧ a ≤ 6) := by unfold okP at h; omega
      refine pspan_w k a n (by omega) h (by unfold okP at h; omega) ?_ n0 n1 w hl
      rcases this with ⟨rfl, h⟩ | ⟨rfl, h⟩
      · rw [L_2]; omega
      · rw [L_3]; omega
theorem pspan_any (k a n : Int) (w : World) (hl : LgIs w) : Calls Tryz.prog 28 #[.agg #[.int .i64 k, .int .i64 a], .int .i64 n] w (RetS (spF k a n) (spT k a n) (spE k a n) w) := by
  by_cases h : spP k a n
  · obtain ⟨e1, e2, e3⟩ := sp_yes h
    rw [e1, e2, e3]; exact pspan_yes k a n h w hl
  · obtain ⟨e1, e2, e3⟩ := sp_no h
    rw [e1, e2, e3]
    by_cases ho : okP k a
    · refine pspan_far k a n ho ?_ w hl
      by_cases c : n < 0 ∨ cnt k a - 1 < n
      · exact c
      · exact absurd ⟨ho, by omega, by omega⟩ h
    · exact pspan_bad k a n ho w
end Go.Proofs.YtmgglcfndhfceaaGreatDoor.Per
