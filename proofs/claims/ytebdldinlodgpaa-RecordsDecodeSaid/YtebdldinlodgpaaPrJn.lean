/-
  Layer 7 (records): the contract of the reference's read: the event of 24 bytes, and whether they are its frame. Condition: the row reads as bytes.
-/
import Derived.Test.YtebdldinlodgpaaPrJi
import Derived.Test.YtebdldinlodgpaaPrJd
import Derived.Test.YtebdldinlodgpaaPrQt
namespace Go.Proofs.Ytebdldinlodgpaa.Rc
open Go Go.RowKit Go.Lib Go.Sort Go.Shelf Go.Proofs Go.Proofs.Ytebdldinlodgpaa Go.Proofs.Ytebdldinlodgpaa.Tp
set_option linter.unusedVariables false

def RdR (bs : List Nat) (w : World) (r : Ending) (w' : World) : Prop := r = .returned (.tuple #[vE (evOf bs), .bool (rd bs).isSome]) ∧ Below w.heap.size w w'

set_option maxRecDepth 100000 in
set_option maxHeartbeats 4000000 in
theorem read_any (x : Addr) (cap : Nat) (bs : List Nat) (hcap : 24 ≤ cap) (w : World) (h : BRow w (some x) 24 bs) :
    Calls Try.prog 73 #[.slice (some x) 24 cap] w (RdR bs w) := by
  have b0 := h.byte (i := 0) (by decide)
  have b1 := h.byte (i := 1) (by decide)
  obtain ⟨y, hy, hc⟩ := h.2.2 (by decide)
  injection hy with hy; subst hy
  have c0 := hc 0 (by decide)
  have c1 := hc 1 (by decide)
  rw [show x.add 0 = x from rfl] at c0
  rw [add_pos x (by decide)] at c1
  have hx := World.block_lt_of_cell? w _ c0
  have RB : Hid ((rd bs).isSome = (decide (bs[0]! = 193) && okE (evOf bs) && decide (crc (sl bs 0 22) = be (sl bs 22 24)))) := Lib.hid (by show (if rdB bs then some (evOf bs) else none).isSome = rdB bs; cases rdB bs <;> rfl)
  have HE : Hid (evOf bs = ⟨be (sl bs 2 4), be (sl bs 4 8), be (sl bs 8 12), be (sl bs 12 16), bs[1]!, be (sl bs 16 18), be (sl bs 18 22)⟩) := Lib.hid rfl
  have CL : Hid (∀ W, Below w.heap.size w W → W.cell? x = some (.int .u8 (bs[0]! : Nat)) ∧ W.cell? ⟨x.block, x.off + 1, none⟩ = some (.int .u8 (bs[1]! : Nat))) := Lib.hid fun W hb => ⟨(hb.cell (p := x) hx).trans c0, (hb.cell (p := ⟨x.block, x.off + 1, none⟩) hx).trans c1⟩
  have BR := Lib.hid h
  clear hc h c0 c1
  have Z1 : Hid (BxE (w.alloc (.cells #[.int .i64 0, .int .i64 0, .int .i64 0, .int .i64 0, .int .i64 0, .int .i64 0, .int .i64 0] 26)) w.heap.size zE) := Lib.hid (BxE.new w zE 26)
  have BA := Lib.hid (below_al (Below.refl w.heap.size w) (.cells #[.int .i64 0, .int .i64 0, .int .i64 0, .int .i64 0, .int .i64 0, .int .i64 0, .int .i64 0] 26))
  have N1 : Hid (∀ W, Below w.heap.size w W → Calls Try.prog 93 #[.slice (some ⟨x.block, x.off + 2, none⟩) 2 (cap - 2)] W fun r W' => r = .returned (.int .i64 (be (sl bs 2 4) : Nat)) ∧ W' = W) :=
    Lib.hid fun W hb => get_any _ _ _ _ (by decide) W ((BR.out.more hb).part 2 4 (by decide) (by decide) (by decide))
  have N2 : Hid (∀ W, Below w.heap.size w W → Calls Try.prog 93 #[.slice (some ⟨x.block, x.off + 4, none⟩) 4 (cap - 4)] W fun r W' => r = .returned (.int .i64 (be (sl bs 4 8) : Nat)) ∧ W' = W) :=
    Lib.hid fun W hb => get_any _ _ _ _ (by decide) W ((BR.out.more hb).part 4 8 (by decide) (by decide) (by decide))
  have N3 : Hid (∀ W, Below w.heap.size w W → Calls Try.prog 93 #[.slice (some ⟨x.block, x.off + 8, none⟩) 4 (cap - 8)] W fun r W' => r = .returned (.int .i64 (be (sl bs 8 12) : Nat)) ∧ W' = W) :=
    Lib.hid fun W hb => get_any _ _ _ _ (by decide) W ((BR.out.more hb).part 8 12 (by decide) (by decide) (by decide))
  have N4 : Hid (∀ W, Below w.heap.size w W → Calls Try.prog 93 #[.slice (some ⟨x.block, x.off + 12, none⟩) 4 (cap - 12)] W fun r W' => r = .returned (.int .i64 (be (sl bs 12 16) : Nat)) ∧ W' = W) :=
    Lib.hid fun W hb => get_any _ _ _ _ (by decide) W ((BR.out.more hb).part 12 16 (by decide) (by decide) (by decide))
  have N5 : Hid (∀ W, Below w.heap.size w W → Calls Try.prog 93 #[.slice (some ⟨x.block, x.off + 16, none⟩) 2 (cap - 16)] W fun r W' => r = .returned (.int .i64 (be (sl bs 16 18) : Nat)) ∧ W' = W) :=
    Lib.hid fun W hb => get_any _ _ _ _ (by decide) W ((BR.out.more hb).part 16 18 (by decide) (by decide) (by decide))
  have N6 : Hid (∀ W, Below w.heap.size w W → Calls Try.prog 93 #[.slice (some ⟨x.block, x.off + 18, none⟩) 4 (cap - 18)] W fun r W' => r = .returned (.int .i64 (be (sl bs 18 22) : Nat)) ∧ W' = W) :=
    Lib.hid fun W hb => get_any _ _ _ _ (by decide) W ((BR.out.more hb).part 18 22 (by decide) (by decide) (by decide))
  have S1 : Hid (∀ W, Below w.heap.size w W → Calls Try.prog 22 #[.slice (some x) 22 cap] W fun r W' => r = .returned (.int .i64 (crc (sl bs 0 22) : Nat)) ∧ W' = W) :=
    Lib.hid fun W hb => rsum_any _ _ _ _ (by decide) W ((BR.out.more hb).head 22 (by decide))
  have S2 : Hid (∀ W, Below w.heap.size w W → Calls Try.prog 93 #[.slice (some ⟨x.block, x.off + 22, none⟩) 2 (cap - 22)] W fun r W' => r = .returned (.int .i64 (be (sl bs 22 24) : Nat)) ∧ W' = W) :=
    Lib.hid fun W hb => get_any _ _ _ _ (by decide) W ((BR.out.more hb).part 22 24 (by decide) (by decide) (by decide))
  have VA := Lib.hid (fun W => rvalid_any (evOf bs) W)
  rw [HE.out] at VA RB
  unfold RdR
  rw [HE.out]
  generalize bs[0]! = m0 at *
  generalize bs[1]! = m1 at *
  generalize be (sl bs 2 4) = a0 at *
  generalize be (sl bs 4 8) = a1 at *
  generalize be (sl bs 8 12) = a2 at *
  generalize be (sl bs 12 16) = a3 at *
  generalize be (sl bs 16 18) = a5 at *
  generalize be (sl bs 18 22) = a6 at *
  generalize crc (sl bs 0 22) = s1 at *
  generalize be (sl bs 22 24) = s2 at *
  generalize rd bs = R at *
  have wm : IntKind.i64.wrap (m1 : Int) = (m1 : Int) := by rw [IntKind.wrap_i64]; omega
  have q2 : (24 : Int) ≤ (cap : Int) := by omega
  have q8 : (4 : Int) ≤ (cap : Int) := by omega
  have q9 : (8 : Int) ≤ (cap : Int) := by omega
  have q10 : (12 : Int) ≤ (cap : Int) := by omega
  have q11 : (16 : Int) ≤ (cap : Int) := by omega
  have q13 : (18 : Int) ≤ (cap : Int) := by omega
  have q12 : (22 : Int) ≤ (cap : Int) := by omega
  have p1 : ¬ cap = 2 := by omega
  have p2 : ¬ cap = 4 := by omega
  have p3 : ¬ cap = 8 := by omega
  have p4 : ¬ cap = 12 := by omega
  have p5 : ¬ cap = 16 := by omega
  have p6 : ¬ cap = 18 := by omega
  have p7 : ¬ cap = 22 := by omega
  clear BR HE
  go_enter Try.func73, Try.ntmps73
  go_upto_region 1 with fail
  have Z2 : Hid (BxE (w.alloc (.cells #[.int .i64 0, .int .i64 0, .int .i64 0, .int .i64 0, .int .i64 0, .int .i64 0, .int .i64 0] 26)) w.heap.size zE) := Z1
  generalize (w.alloc (.cells #[.int .i64 0, .int .i64 0, .int .i64 0, .int .i64 0, .int .i64 0, .int .i64 0, .int .i64 0] 26)) = wa at *
  clear Z1
  go_cut [4] (fun s wx => ∃ p : Nat, s = .pointer (some ⟨p, 0, none⟩) ∧ Hid (BxE wx p ⟨a0, a1, a2, a3, m1, a5, a6⟩) ∧ Hid (Below wa.heap.size wa wx))
  case first =>
    have BW : Hid (∀ W, Below wa.heap.size wa W → Below w.heap.size w W) := Lib.hid fun W hb => BA.out.trans (hb.mono BA.out.size)
    have CM : Hid (∀ W, Below wa.heap.size wa W → W.cell? ⟨x.block, x.off + 1, none⟩ = some (.int .u8 (m1 : Int))) := Lib.hid fun W hb => (CL.out W (BW.out W hb)).2
    clear RB S1 S2 VA CL
    go_region_held3 (fun w' => Below wa.heap.size wa w' ∧ w'.cell? ⟨x.block, x.off + 1, none⟩ = some (.int .u8 (m1 : Int)))
      (first | ((with_reducible refine ⟨?_, CM.out _ ?_⟩) <;> (repeat (first | (with_reducible assumption) | (with_reducible exact Below.refl _ _) | (with_reducible refine Below.drew ?_) | (with_reducible refine below_al ?_ _) | (with_reducible refine below_set ?_ ?_ _ _) | (with_reducible exact Nat.le_refl _) | (with_reducible exact Below.size (by with_reducible assumption))))))
      (first
        | (go_at_call 93; go_split_ands; (with_reducible refine (N1.out _ (BW.out _ (by with_reducible assumption))).mono ?_); rintro e w4 ⟨rfl, rfl⟩)
        | (go_at_call 93; go_split_ands; (with_reducible refine (N2.out _ (BW.out _ (by with_reducible assumption))).mono ?_); rintro e w4 ⟨rfl, rfl⟩)
        | (go_at_call 93; go_split_ands; (with_reducible refine (N3.out _ (BW.out _ (by with_reducible assumption))).mono ?_); rintro e w4 ⟨rfl, rfl⟩)
        | (go_at_call 93; go_split_ands; (with_reducible refine (N4.out _ (BW.out _ (by with_reducible assumption))).mono ?_); rintro e w4 ⟨rfl, rfl⟩)
        | (go_at_call 93; go_split_ands; (with_reducible refine (N5.out _ (BW.out _ (by with_reducible assumption))).mono ?_); rintro e w4 ⟨rfl, rfl⟩)
        | (go_at_call 93; go_split_ands; (with_reducible refine (N6.out _ (BW.out _ (by with_reducible assumption))).mono ?_); rintro e w4 ⟨rfl, rfl⟩))
    all_goals go_split_ands
    all_goals go_wp2_with fail
    all_goals go_meet
    all_goals refine ⟨_, rfl, Lib.hid ?_, Lib.hid ?_⟩
    all_goals first
      | (with_reducible assumption)
      | (exact BxE.new _ ⟨a0, a1, a2, a3, m1, a5, a6⟩ _)
      | (exact (BxE.new _ ⟨a0, a1, a2, a3, m1, a5, a6⟩ _).keep rfl)
      | (repeat (first | (with_reducible assumption) | (with_reducible exact Below.refl _ _) | (with_reducible refine Below.drew ?_) | (with_reducible refine below_al ?_ _) | (with_reducible refine below_set ?_ ?_ _ _) | (with_reducible exact Nat.le_refl _) | (with_reducible exact Below.size (by with_reducible assumption))))
  case rest =>
    obtain ⟨p, hs, HX, HBc⟩ := hcut
    subst hs
    obtain ⟨wq, hwq⟩ : ∃ wq, wq = wc := ⟨_, rfl⟩
    subst hwq
    clear N1 N2 N3 N4 N5 N6 q2 q8 q9 q10 q11 q13 p1 p2 p3 p4 p5 p6
    have mixed : Try.prog.follows Departure.mixedOrders = true := by kernel_rfl
    have BB := Lib.hid (fun (P : BelowBy wq) => BA.out.trans ((HBc.out.trans (P.h.mono HBc.out.size)).mono BA.out.size))
    have VG : Hid (∀ P : BelowBy wq, Calls Try.prog 20 #[.agg #[.int .i64 a0, .int .i64 a1, .int .i64 a2, .int .i64 a3, .int .i64 m1, .int .i64 a5, .int .i64 a6]] P.W fun r W' => r = .returned (.bool (okE ⟨a0, a1, a2, a3, m1, a5, a6⟩)) ∧ ∃ p2 : BelowBy wq, W' = p2.W) := Lib.hid fun P => (VA.out P.W).mono fun _ W' h => ⟨h.1, ⟨W', P.h.trans (h.2.below.mono P.h.size)⟩, rfl⟩
    have SG : Hid (∀ P : BelowBy wq, Calls Try.prog 22 #[.slice (some x) 22 cap] P.W fun r W' => r = .returned (.int .i64 (s1 : Nat)) ∧ ∃ p2 : BelowBy wq, W' = p2.W) := Lib.hid fun P => (S1.out P.W (BB.out P)).mono fun _ W' h => ⟨h.1, P, h.2⟩
    have NG : Hid (∀ P : BelowBy wq, Calls Try.prog 93 #[.slice (some ⟨x.block, x.off + 22, none⟩) 2 (cap - 22)] P.W fun r W' => r = .returned (.int .i64 (s2 : Nat)) ∧ ∃ p2 : BelowBy wq, W' = p2.W) := Lib.hid fun P => (S2.out P.W (BB.out P)).mono fun _ W' h => ⟨h.1, P, h.2⟩
    have L : Hid (∀ P : BelowBy wq, P.W.cell? ⟨p, 0, none⟩ = some (.int .i64 a0) ∧ P.W.cell? ⟨p, 1, none⟩ = some (.int .i64 a1) ∧ P.W.cell? ⟨p, 2, none⟩ = some (.int .i64 a2) ∧ P.W.cell? ⟨p, 3, none⟩ = some (.int .i64 a3) ∧ P.W.cell? ⟨p, 4, none⟩ = some (.int .i64 m1) ∧ P.W.cell? ⟨p, 5, none⟩ = some (.int .i64 a5) ∧ P.W.cell? ⟨p, 6, none⟩ = some (.int .i64 a6)) := Lib.hid fun P => (HX.out.keep (P.h.block p HX.out.lt)).at7
    have c0 := fun P : BelowBy wq => (L.out P).1
    have c1 := fun P : BelowBy wq => (L.out P).2.1
    have c2 := fun P : BelowBy wq => (L.out P).2.2.1
    have c3 := fun P : BelowBy wq => (L.out P).2.2.2.1
    have c4 := fun P : BelowBy wq => (L.out P).2.2.2.2.1
    have c5 := fun P : BelowBy wq => (L.out P).2.2.2.2.2.1
    have c6 := fun P : BelowBy wq => (L.out P).2.2.2.2.2.2
    have cx := fun P : BelowBy wq => (CL.out P.W (BB.out P)).1
    have ZC := Lib.hid (Z2.out.keep (HBc.out.block _ Z2.out.lt))
    have BC := Lib.hid (BA.out.trans (HBc.out.mono BA.out.size))
    clear VA S1 S2 BB Z2 BA HBc CL L HX
    generalize hB : okE ⟨a0, a1, a2, a3, m1, a5, a6⟩ = B at *
    clear hB
    go_wp2_with fail
    by_cases hm : m0 = 193
    · by_cases h12 : s1 = s2
      · have HR := Lib.hid (RB.out.trans (by rw [decide_eq_true hm, decide_eq_true h12]; simp : _ = B))
        have tm : ((m0 : Int) == 193) = true := by simp; omega
        have ts : ((s1 : Int) == (s2 : Int)) = true := by simp; omega
        clear hm h12
        refine wp_region_below_tail (w0 := wq) 18 17 mixed (by kernel_rfl) (fun o ho => by injection ho with ho; subst ho; exact pure_pick rfl) (fun o ho => by injection ho with ho; subst ho; exact fun _ _ _ _ h => h) (Below.refl _ _) ?_
        simp only [List.take_succ_cons, List.take_zero, List.drop_succ_cons, List.drop_zero]
        repeat (go_big_quiet_step ((first | (go_at_call 22; exact SG.out _) | (go_at_call 93; exact NG.out _) | (go_at_call 20; exact VG.out _))))
        refine wpQuiet_nil ?_
        intro P
        obtain ⟨wd, hG⟩ := P
        change wpList _ _ _ _ _ wd
        clear c0 c1 c2 c3 c4 c5 c6 cx SG NG VG
        have BD := Lib.hid (BC.out.trans (hG.mono BC.out.size))
        have ZD := Lib.hid (ZC.out.keep (hG.block _ ZC.out.lt))
        obtain ⟨z0, z1, z2, z3, z4, z5, z6⟩ := ZD.out.at7
        have g0 := ZD.out.free 0 (by decide)
        have g1 := ZD.out.free 1 (by decide)
        have g2 := ZD.out.free 2 (by decide)
        have g3 := ZD.out.free 3 (by decide)
        have g4 := ZD.out.free 4 (by decide)
        have g5 := ZD.out.free 5 (by decide)
        have g6 := ZD.out.free 6 (by decide)
        simp only [zE] at z0 z1 z2 z3 z4 z5 z6
        clear hG ZC BC
        go_wp2_with fail
        have ZF := Lib.hid (BxE.put ZD.out ⟨a0, a1, a2, a3, m1, a5, a6⟩)
        have BF := Lib.hid (put7_below BD.out (Nat.le_refl _) ⟨a0, a1, a2, a3, m1, a5, a6⟩)
        clear z0 z1 z2 z3 z4 z5 z6 g0 g1 g2 g3 g4 g5 g6 ZD BD
        unfold put7 at ZF BF
        simp only at ZF BF
        obtain ⟨y0, y1, y2, y3, y4, y5, y6⟩ := ZF.out.at7
        simp only at y0 y1 y2 y3 y4 y5 y6
        exact bodyPost_ret (v := .tuple #[vE ⟨a0, a1, a2, a3, m1, a5, a6⟩, .bool B]) (by simp [results, Try.results73, go_sem, vE, y0, y1, y2, y3, y4, y5, y6]) rfl ⟨by rw [HR.out], BF.out⟩
      · have HR := Lib.hid (RB.out.trans (by rw [decide_eq_false h12]; simp : _ = false))
        have tm : ((m0 : Int) == 193) = true := by simp; omega
        have ts : ((s1 : Int) == (s2 : Int)) = false := by simp; omega
        clear hm h12
        refine wp_region_below_tail (w0 := wq) 18 17 mixed (by kernel_rfl) (fun o ho => by injection ho with ho; subst ho; exact pure_pick rfl) (fun o ho => by injection ho with ho; subst ho; exact fun _ _ _ _ h => h) (Below.refl _ _) ?_
        simp only [List.take_succ_cons, List.take_zero, List.drop_succ_cons, List.drop_zero]
        repeat (go_big_quiet_step ((first | (go_at_call 22; exact SG.out _) | (go_at_call 93; exact NG.out _) | (go_at_call 20; exact VG.out _))))
        refine wpQuiet_nil ?_
        intro P
        obtain ⟨wd, hG⟩ := P
        change wpList _ _ _ _ _ wd
        clear c0 c1 c2 c3 c4 c5 c6 cx SG NG VG
        have BD := Lib.hid (BC.out.trans (hG.mono BC.out.size))
        have ZD := Lib.hid (ZC.out.keep (hG.block _ ZC.out.lt))
        obtain ⟨z0, z1, z2, z3, z4, z5, z6⟩ := ZD.out.at7
        have g0 := ZD.out.free 0 (by decide)
        have g1 := ZD.out.free 1 (by decide)
        have g2 := ZD.out.free 2 (by decide)
        have g3 := ZD.out.free 3 (by decide)
        have g4 := ZD.out.free 4 (by decide)
        have g5 := ZD.out.free 5 (by decide)
        have g6 := ZD.out.free 6 (by decide)
        simp only [zE] at z0 z1 z2 z3 z4 z5 z6
        clear hG ZC BC
        go_wp2_with fail
        have ZF := Lib.hid (BxE.put ZD.out ⟨a0, a1, a2, a3, m1, a5, a6⟩)
        have BF := Lib.hid (put7_below BD.out (Nat.le_refl _) ⟨a0, a1, a2, a3, m1, a5, a6⟩)
        clear z0 z1 z2 z3 z4 z5 z6 g0 g1 g2 g3 g4 g5 g6 ZD BD
        unfold put7 at ZF BF
        simp only at ZF BF
        obtain ⟨y0, y1, y2, y3, y4, y5, y6⟩ := ZF.out.at7
        simp only at y0 y1 y2 y3 y4 y5 y6
        exact bodyPost_ret (v := .tuple #[vE ⟨a0, a1, a2, a3, m1, a5, a6⟩, .bool false]) (by simp [results, Try.results73, go_sem, vE, y0, y1, y2, y3, y4, y5, y6]) rfl ⟨by rw [HR.out], BF.out⟩
    · have HR := Lib.hid (RB.out.trans (by rw [decide_eq_false hm]; simp : _ = false))
      have tm : ((m0 : Int) == 193) = false := by simp; omega
      clear hm
      refine wp_region_below_tail (w0 := wq) 18 17 mixed (by kernel_rfl) (fun o ho => by injection ho with ho; subst ho; exact pure_pick rfl) (fun o ho => by injection ho with ho; subst ho; exact fun _ _ _ _ h => h) (Below.refl _ _) ?_
      simp only [List.take_succ_cons, List.take_zero, List.drop_succ_cons, List.drop_zero]
      repeat (go_big_quiet_step ((first | (go_at_call 22; exact SG.out _) | (go_at_call 93; exact NG.out _) | (go_at_call 20; exact VG.out _))))
      refine wpQuiet_nil ?_
      intro P
      obtain ⟨wd, hG⟩ := P
      change wpList _ _ _ _ _ wd
      clear c0 c1 c2 c3 c4 c5 c6 cx SG NG VG
      have BD := Lib.hid (BC.out.trans (hG.mono BC.out.size))
      have ZD := Lib.hid (ZC.out.keep (hG.block _ ZC.out.lt))
      obtain ⟨z0, z1, z2, z3, z4, z5, z6⟩ := ZD.out.at7
      have g0 := ZD.out.free 0 (by decide)
      have g1 := ZD.out.free 1 (by decide)
      have g2 := ZD.out.free 2 (by decide)
      have g3 := ZD.out.free 3 (by decide)
      have g4 := ZD.out.free 4 (by decide)
      have g5 := ZD.out.free 5 (by decide)
      have g6 := ZD.out.free 6 (by decide)
      simp only [zE] at z0 z1 z2 z3 z4 z5 z6
      clear hG ZC BC
      go_wp2_with fail
      have ZF := Lib.hid (BxE.put ZD.out ⟨a0, a1, a2, a3, m1, a5, a6⟩)
      have BF := Lib.hid (put7_below BD.out (Nat.le_refl _) ⟨a0, a1, a2, a3, m1, a5, a6⟩)
      clear z0 z1 z2 z3 z4 z5 z6 g0 g1 g2 g3 g4 g5 g6 ZD BD
      unfold put7 at ZF BF
      simp only at ZF BF
      obtain ⟨y0, y1, y2, y3, y4, y5, y6⟩ := ZF.out.at7
      simp only at y0 y1 y2 y3 y4 y5 y6
      exact bodyPost_ret (v := .tuple #[vE ⟨a0, a1, a2, a3, m1, a5, a6⟩, .bool false]) (by simp [results, Try.results73, go_sem, vE, y0, y1, y2, y3, y4, y5, y6]) rfl ⟨by rw [HR.out], BF.out⟩
end Go.Proofs.Ytebdldinlodgpaa.Rc
