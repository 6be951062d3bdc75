/-
  The generator of inputs: the contract of Event: whatever the tape holds, a valid event. Condition: the tape's block reads as a tape.
-/
import Derived.Test.YtebdldinlodgpaaPrJh
import Derived.Test.YtebdldinlodgpaaPrJl
import Derived.Deep.Cut
namespace Go.Proofs.Ytebdldinlodgpaa.Rc
open Go Go.RowKit Go.Lib Go.Sort Go.Shelf Go.Proofs Go.Proofs.Ytebdldinlodgpaa Go.Proofs.Ytebdldinlodgpaa.Tp
set_option linter.unusedVariables false

theorem gen_ok {e : Ev} (h1 : 0 ≤ e.kt) (h2 : e.kt ≤ 1) (h3 : 0 ≤ e.ks) (h4 : e.ks ≤ 8) (h5 : 1 ≤ e.em) (h6 : e.em ≤ 2) (h7 : 29453760 ≤ e.ti) (h8 : e.ti ≤ 29468161) (h9 : 1 ≤ e.ki) (h10 : e.ki ≤ 6)
    (h11 : 5 ≤ e.ki → 0 ≤ e.tt ∧ e.tt ≤ 1 ∧ 0 ≤ e.ts ∧ e.ts ≤ 8) (h12 : e.ki < 5 → e.tt = 0 ∧ e.ts = 0) : okE e = true := by
  unfold okE okK
  by_cases h : 5 ≤ e.ki
  · have := h11 h
    simp [h]; omega
  · have := h12 (by omega)
    simp [h]; omega
theorem eight (w : World) (a b c d e f g h : Int) (t : TypeId) : ∀ i, i < ([a, b, c, d, e, f, g, h] : List Int).length → (w.alloc (.cells #[.int .i64 a, .int .i64 b, .int .i64 c, .int .i64 d, .int .i64 e, .int .i64 f, .int .i64 g, .int .i64 h] t)).cell? ⟨w.heap.size, i, none⟩ = some (.int .i64 (([a, b, c, d, e, f, g, h] : List Int).getD i 0)) := by
  intro i hi
  rcases i with _ | _ | _ | _ | _ | _ | _ | _ | i
  all_goals first | (go_simp; done) | (simp at hi; omega)
theorem BxE.only {W W' : World} {b p : Nat} {e : Ev} (h : BxE W p e) (ho : Only b W W') (hp : p ≠ b) : BxE W' p e := h.keep (ho.block p h.lt hp)
theorem BxE.alloc {W : World} {p : Nat} {e : Ev} (h : BxE W p e) (o : Obj) : BxE (W.alloc o) p e := h.keep (Below.heap_alloc W o p h.lt)
theorem put7_tape {W : World} {b p : Nat} (h : TapeAt b W) (hp : b < p) (e : Ev) : TapeAt b (put7 W p e) :=
  ((((((h.far (p := ⟨p, 0, none⟩) hp _).far (p := ⟨p, 1, none⟩) hp _).far (p := ⟨p, 2, none⟩) hp _).far (p := ⟨p, 3, none⟩) hp _).far (p := ⟨p, 4, none⟩) hp _).far (p := ⟨p, 5, none⟩) hp _).far (p := ⟨p, 6, none⟩) hp _
theorem put7_only {u W : World} {b p : Nat} (h : Only b u W) (hp : u.heap.size ≤ p) (e : Ev) : Only b u (put7 W p e) :=
  ((((((h.setCell (p := ⟨p, 0, none⟩) (.inr hp) _).setCell (p := ⟨p, 1, none⟩) (.inr hp) _).setCell (p := ⟨p, 2, none⟩) (.inr hp) _).setCell (p := ⟨p, 3, none⟩) (.inr hp) _).setCell (p := ⟨p, 4, none⟩) (.inr hp) _).setCell (p := ⟨p, 5, none⟩) (.inr hp) _).setCell (p := ⟨p, 6, none⟩) (.inr hp) _
def GeR (b : Nat) (w : World) (r : Ending) (w' : World) : Prop := ∃ e : Ev, r = .returned (vE e) ∧ okE e = true ∧ TapeAt b w' ∧ Only b w w'

set_option maxRecDepth 100000 in
set_option maxHeartbeats 4000000 in
theorem gevent_any (b : Nat) (w : World) (h : TapeAt b w) :
    Calls Try.prog 15 #[.pointer (some ⟨b, 0, none⟩)] w (GeR b w) := by
  have hb := h.lt
  have H0 := Lib.hid (h.alloc (.cells #[.int .i64 0, .int .i64 0, .int .i64 0, .int .i64 0, .int .i64 0, .int .i64 0, .int .i64 0] 26))
  have O0 := Lib.hid (Only.alloc (Only.refl b w) (.cells #[.int .i64 0, .int .i64 0, .int .i64 0, .int .i64 0, .int .i64 0, .int .i64 0, .int .i64 0] 26))
  have Z0 : Hid (BxE (w.alloc (.cells #[.int .i64 0, .int .i64 0, .int .i64 0, .int .i64 0, .int .i64 0, .int .i64 0, .int .i64 0] 26)) w.heap.size zE) := Lib.hid (BxE.new w zE _)
  have hne : w.heap.size ≠ b := by omega
  clear h
  go_enter Try.func15, Try.ntmps15
  go_wp2_with fail
  generalize w.alloc (.cells #[.int .i64 0, .int .i64 0, .int .i64 0, .int .i64 0, .int .i64 0, .int .i64 0, .int .i64 0] 26) = wa at *
  refine (gkey_any b _ H0.out).mono ?_
  rintro r w1 ⟨kt, ks, rfl, k0, k1, k2, k3, T1, O1⟩
  have H1 := Lib.hid T1
  have P1 := Lib.hid (O0.out.trans O1)
  have Z1 := Lib.hid (Z0.out.only O1 hne)
  clear T1 O1 H0 O0 Z0
  go_wp2_with fail
  refine (next_any b 6 (by omega) (by omega) _ H1.out).mono ?_
  rintro r w2 ⟨m, rfl, m0, m1, T2, O2⟩
  have H2 := Lib.hid T2
  have P2 := Lib.hid (P1.out.trans O2)
  have Z2 := Lib.hid (Z1.out.only O2 hne)
  clear T2 O2 H1 P1 Z1
  go_wp2_with fail
  refine (near_any b _ H2.out).mono ?_
  rintro r w3 ⟨ti, rfl, t0, t1, T3, O3⟩
  have H3 := Lib.hid (TapeAt.alloc T3 (.cells #[.int .i64 1, .int .i64 2, .int .i64 3, .int .i64 4, .int .i64 1, .int .i64 2, .int .i64 5, .int .i64 6] 3))
  have P3 := Lib.hid (Only.alloc (P2.out.trans O3) (.cells #[.int .i64 1, .int .i64 2, .int .i64 3, .int .i64 4, .int .i64 1, .int .i64 2, .int .i64 5, .int .i64 6] 3))
  have Z3 := Lib.hid (BxE.alloc (Z2.out.only O3 hne) (.cells #[.int .i64 1, .int .i64 2, .int .i64 3, .int .i64 4, .int .i64 1, .int .i64 2, .int .i64 5, .int .i64 6] 3))
  have ne3 : w3.heap.size ≠ b := by have := T3.lt; omega
  clear T3 O3 H2 P2 Z2
  go_wp2_with fail
  refine (pick_any b w3.heap.size [1, 2, 3, 4, 1, 2, 5, 6] (by simp) (by simp) ne3 _ H3.out (eight w3 1 2 3 4 1 2 5 6 3)).mono ?_
  rintro r w4 ⟨ki, rfl, hk, T4, O4⟩
  have hk1 : 1 ≤ ki ∧ ki ≤ 6 := by simp at hk; omega
  have H4 := Lib.hid T4
  have P4 := Lib.hid (P3.out.trans O4)
  have Z4 := Lib.hid (Z3.out.only O4 hne)
  clear T4 O4 H3 P3 Z3 hk
  have hm1 : 1 ≤ 1 + m / 5 ∧ 1 + m / 5 ≤ 2 := by omega
  generalize hE : 1 + m / 5 = em at *
  clear hE
  have ne4 : w4.heap.size ≠ b := by have := H4.out.lt; omega
  have nz4 : w.heap.size < w4.heap.size := Z4.out.lt
  have X5 : Hid (BxE (w4.alloc (.cells #[.int .i64 kt, .int .i64 ks, .int .i64 em, .int .i64 ti, .int .i64 ki, .int .i64 0, .int .i64 0] 26)) w4.heap.size ⟨kt, ks, em, ti, ki, 0, 0⟩) := Lib.hid (BxE.new w4 ⟨kt, ks, em, ti, ki, 0, 0⟩ _)
  have H5 := Lib.hid (H4.out.alloc (.cells #[.int .i64 kt, .int .i64 ks, .int .i64 em, .int .i64 ti, .int .i64 ki, .int .i64 0, .int .i64 0] 26))
  have P5 := Lib.hid (P4.out.alloc (.cells #[.int .i64 kt, .int .i64 ks, .int .i64 em, .int .i64 ti, .int .i64 ki, .int .i64 0, .int .i64 0] 26))
  have Z5 := Lib.hid (Z4.out.alloc (.cells #[.int .i64 kt, .int .i64 ks, .int .i64 em, .int .i64 ti, .int .i64 ki, .int .i64 0, .int .i64 0] 26))
  clear H4 P4 Z4
  by_cases h5 : 5 ≤ ki
  · have t5 : decide (5 ≤ ki) = true := decide_eq_true h5
    go_upto_region 3 with fail
    generalize (w4.alloc (.cells #[.int .i64 kt, .int .i64 ks, .int .i64 em, .int .i64 ti, .int .i64 ki, .int .i64 0, .int .i64 0] 26)) = w5 at *
    go_wp2_with fail
    refine (gkey_any b _ H5.out).mono ?_
    rintro r w6 ⟨tt, ts, rfl, l0, l1, l2, l3, T6, O6⟩
    have H6 := Lib.hid T6
    have P6 := Lib.hid (P5.out.trans O6)
    have Z6 := Lib.hid (Z5.out.only O6 hne)
    have X6 := Lib.hid (X5.out.only O6 ne4)
    have OK := Lib.hid (gen_ok (e := ⟨kt, ks, em, ti, ki, tt, ts⟩) k0 k1 k2 k3 hm1.1 hm1.2 t0 t1 hk1.1 hk1.2 (fun _ => ⟨l0, l1, l2, l3⟩) (fun h => absurd h5 (by simp only at h; omega)))
    clear T6 O6 H5 P5 Z5 X5
    obtain ⟨x0, x1, x2, x3, x4, x5, x6⟩ := X6.out.at7
    have f5 := X6.out.free 5 (by decide)
    have f6 := X6.out.free 6 (by decide)
    obtain ⟨z0, z1, z2, z3, z4, z5, z6⟩ := Z6.out.at7
    have g0 := Z6.out.free 0 (by decide)
    have g1 := Z6.out.free 1 (by decide)
    have g2 := Z6.out.free 2 (by decide)
    have g3 := Z6.out.free 3 (by decide)
    have g4 := Z6.out.free 4 (by decide)
    have g5 := Z6.out.free 5 (by decide)
    have g6 := Z6.out.free 6 (by decide)
    simp only [zE] at x0 x1 x2 x3 x4 x5 x6 z0 z1 z2 z3 z4 z5 z6
    have s4 := X6.out.lt
    have n1 : ¬ w.heap.size = w4.heap.size := by omega
    have HB : Hid (b < w4.heap.size) := Lib.hid (by omega)
    have HN : Hid (w.heap.size ≤ w4.heap.size) := Lib.hid (by omega)
    have n2 : ¬ w4.heap.size = w.heap.size := by omega
    go_wp2_with fail
    have HF := Lib.hid (put7_tape ((H6.out.far (p := ⟨w4.heap.size, 5, none⟩) HB.out (.int .i64 tt)).far (p := ⟨w4.heap.size, 6, none⟩) HB.out (.int .i64 ts)) hb ⟨kt, ks, em, ti, ki, tt, ts⟩)
    have PF := Lib.hid (put7_only ((P6.out.setCell (p := ⟨w4.heap.size, 5, none⟩) (.inr HN.out) (.int .i64 tt)).setCell (p := ⟨w4.heap.size, 6, none⟩) (.inr HN.out) (.int .i64 ts)) (Nat.le_refl _) ⟨kt, ks, em, ti, ki, tt, ts⟩)
    have ZF := Lib.hid (BxE.put ((Z6.out.keep (Below.heap_setCell w6 ⟨w4.heap.size, 5, none⟩ (.int .i64 tt) w.heap.size n1)).keep (Below.heap_setCell _ ⟨w4.heap.size, 6, none⟩ (.int .i64 ts) w.heap.size n1)) ⟨kt, ks, em, ti, ki, tt, ts⟩)
    clear z0 g0 z1 g1 z2 g2 z3 g3 z4 g4 z5 g5 z6 g6 x0 x1 x2 x3 x4 x5 x6 f5 f6
    unfold put7 at HF PF ZF
    simp only at HF PF ZF
    obtain ⟨y0, y1, y2, y3, y4, y5, y6⟩ := ZF.out.at7
    simp only at y0 y1 y2 y3 y4 y5 y6
    exact bodyPost_ret (v := vE ⟨kt, ks, em, ti, ki, tt, ts⟩) (by simp [results, Try.results15, go_sem, vE, y0, y1, y2, y3, y4, y5, y6]) rfl ⟨_, rfl, OK.out, HF.out, PF.out⟩
  · have t5 : decide (5 ≤ ki) = false := decide_eq_false h5
    have OK := Lib.hid (gen_ok (e := ⟨kt, ks, em, ti, ki, 0, 0⟩) k0 k1 k2 k3 hm1.1 hm1.2 t0 t1 hk1.1 hk1.2 (fun h => absurd h h5) (fun _ => ⟨rfl, rfl⟩))
    go_upto_region 4 with fail
    generalize (w4.alloc (.cells #[.int .i64 kt, .int .i64 ks, .int .i64 em, .int .i64 ti, .int .i64 ki, .int .i64 0, .int .i64 0] 26)) = w5 at *
    obtain ⟨x0, x1, x2, x3, x4, x5, x6⟩ := X5.out.at7
    obtain ⟨z0, z1, z2, z3, z4, z5, z6⟩ := Z5.out.at7
    have g0 := Z5.out.free 0 (by decide)
    have g1 := Z5.out.free 1 (by decide)
    have g2 := Z5.out.free 2 (by decide)
    have g3 := Z5.out.free 3 (by decide)
    have g4 := Z5.out.free 4 (by decide)
    have g5 := Z5.out.free 5 (by decide)
    have g6 := Z5.out.free 6 (by decide)
    simp only [zE] at x0 x1 x2 x3 x4 x5 x6 z0 z1 z2 z3 z4 z5 z6
    have s4 := X5.out.lt
    have n1 : ¬ w.heap.size = w4.heap.size := by omega
    have n2 : ¬ w4.heap.size = w.heap.size := by omega
    go_wp2_with fail
    have HF := Lib.hid (put7_tape H5.out hb ⟨kt, ks, em, ti, ki, 0, 0⟩)
    have PF := Lib.hid (put7_only P5.out (Nat.le_refl _) ⟨kt, ks, em, ti, ki, 0, 0⟩)
    have ZF := Lib.hid (BxE.put Z5.out ⟨kt, ks, em, ti, ki, 0, 0⟩)
    clear z0 g0 z1 g1 z2 g2 z3 g3 z4 g4 z5 g5 z6 g6 x0 x1 x2 x3 x4 x5 x6
    unfold put7 at HF PF ZF
    simp only at HF PF ZF
    obtain ⟨y0, y1, y2, y3, y4, y5, y6⟩ := ZF.out.at7
    simp only at y0 y1 y2 y3 y4 y5 y6
    exact bodyPost_ret (v := vE ⟨kt, ks, em, ti, ki, 0, 0⟩) (by simp [results, Try.results15, go_sem, vE, y0, y1, y2, y3, y4, y5, y6]) rfl ⟨_, rfl, OK.out, HF.out, PF.out⟩
end Go.Proofs.Ytebdldinlodgpaa.Rc
