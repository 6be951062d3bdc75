/-
  Layer 7 (records): contracts of key and event of the program: the event whose frame 24 bytes are. Condition: the row reads as bytes.
-/
import Derived.Test.YtebdldinlodgpaaPrJc
import Derived.Test.YtebdldinlodgpaaPrJb
import Derived.Test.YtebdldinlodgpaaPrJl
import Derived.DataElems
import Derived.Deep.Cut
import Derived.Deep.DeepCutAuto
import Derived.Deep.RegionHeld3
import Derived.Deep.RegionWith
namespace Go.Proofs.Ytebdldinlodgpaa.Rc
open Go Go.RowKit Go.Lib Go.Sort Go.Shelf Go.Proofs Go.Proofs.Ytebdldinlodgpaa Go.Proofs.Ytebdldinlodgpaa.Tp
set_option linter.unusedVariables false

theorem sl_get {l : List Nat} {a b i : Nat} (hb : b ≤ l.length) (hi : a + i < b) : (sl l a b)[i]! = l[a + i]! := by
  rw [getElem!_pos _ i (by rw [sl_len l a b hb]; omega), getElem!_pos l (a + i) (by omega)]
  simp [sl]
/-- A part of a row. -/
theorem BRow.sub {w : World} {x : Addr} {n : Nat} {bs : List Nat} (h : BRow w (some x) n bs) (i j : Nat) (hij : i ≤ j) (hj : j ≤ n) : BRow w (some (x.add i)) (j - i) (sl bs i j) := by
  have hl := h.1
  refine ⟨sl_len _ _ _ (by omega), sl_by h.2.1 _ _, fun hn => ⟨_, rfl, fun k hk => ?_⟩⟩
  obtain ⟨y, hy, hc⟩ := h.2.2 (by omega)
  injection hy with hy; subst hy
  rw [Addr.add_add, sl_get (by omega) (by omega)]
  exact hc _ (by omega)
theorem BRow.head {w : World} {x : Addr} {n : Nat} {bs : List Nat} (h : BRow w (some x) n bs) (j : Nat) (hj : j ≤ n) : BRow w (some x) j (sl bs 0 j) := by
  have := h.sub 0 j (Nat.zero_le _) hj
  rwa [show x.add 0 = x from rfl] at this
theorem add_pos (x : Addr) {i : Nat} (hi : 0 < i) : x.add i = ⟨x.block, x.off + i, none⟩ := by unfold Addr.add; rw [if_neg (by omega)]
theorem BRow.part {w : World} {x : Addr} {n : Nat} {bs : List Nat} (h : BRow w (some x) n bs) (i j : Nat) (hi : 0 < i) (hij : i ≤ j) (hj : j ≤ n) : BRow w (some ⟨x.block, x.off + i, none⟩) (j - i) (sl bs i j) := by
  have := h.sub i j hij hj
  rwa [add_pos x hi] at this

def KeyR (t s : Nat) (w : World) (r : Ending) (w' : World) : Prop := r = .returned (.agg #[.int .i64 (t : Int), .int .i64 (s : Int)]) ∧ Gr w w'
set_option maxRecDepth 100000 in
set_option maxHeartbeats 2000000 in
theorem key_any (x : Addr) (cap : Nat) (bs : List Nat) (hcap : 6 ≤ cap) (w : World) (h : BRow w (some x) 6 bs) :
    Calls Try.prog 74 #[.slice (some x) 6 cap] w (KeyR (be (sl bs 0 2)) (be (sl bs 2 6)) w) := by
  have N1 : Hid (∀ w', Gr w w' → Calls Try.prog 75 #[.slice (some x) 2 cap] w' fun e w'' => e = .returned (.int .i64 (be (sl bs 0 2) : Nat)) ∧ w'' = w') :=
    Lib.hid fun w' hg => num_any _ _ _ _ (by decide) _ ((h.more hg.below).head 2 (by decide))
  have N2 : Hid (∀ w', Gr w w' → Calls Try.prog 75 #[.slice (some ⟨x.block, x.off + 2, none⟩) 4 (cap - 2)] w' fun e w'' => e = .returned (.int .i64 (be (sl bs 2 6) : Nat)) ∧ w'' = w') :=
    Lib.hid fun w' hg => num_any _ _ _ _ (by decide) _ ((h.more hg.below).part 2 6 (by decide) (by decide) (by decide))
  generalize be (sl bs 0 2) = t at *
  generalize be (sl bs 2 6) = s at *
  have q1 : (2 : Int) ≤ (cap : Int) := by omega
  have q2 : ¬ cap = 2 := by omega
  have q3 : (6 : Int) ≤ (cap : Int) := by omega
  have G1 := Lib.hid (Gr.drew ((Gr.refl w).alloc (.cells #[.int .i64 0, .int .i64 0] 24)))
  clear h hcap
  go_enter Try.func74, Try.ntmps74
  go_wp2_with fail
  go_region_held3 (fun w' => True) (trivial)
    (first
      | (go_at_call 75; (with_reducible refine (N1.out _ G1.out).mono ?_); rintro e w2 ⟨rfl, rfl⟩)
      | (go_at_call 75; (with_reducible refine (N2.out _ G1.out).mono ?_); rintro e w3 ⟨rfl, rfl⟩))
  go_wp2_with fail
  exact bodyPost_ret (v := .agg #[.int .i64 (t : Int), .int .i64 (s : Int)]) (by simp [results, Try.results74, go_sem]) rfl ⟨rfl, Gr.drew ((Gr.refl w).alloc _)⟩

def EvR (o : Option Ev) (w : World) (r : Ending) (w' : World) : Prop := r = .returned (EvV o) ∧ Below w.heap.size w w'
theorem rd_mark {w : List Nat} (h : ¬ w[0]! = 193) : rd w = none := by unfold rd rdB; rw [decide_eq_false h]; rfl
theorem rd_invalid {w : List Nat} (h : okE (evOf w) = false) : rd w = none := by unfold rd rdB; rw [h]; simp
theorem rd_sum {w : List Nat} (h : ¬ crc (sl w 0 22) = be (sl w 22 24)) : rd w = none := by unfold rd rdB; rw [decide_eq_false h]; simp
theorem rd_good {w : List Nat} (h : w[0]! = 193) (h1 : okE (evOf w) = true) (h2 : crc (sl w 0 22) = be (sl w 22 24)) : rd w = some (evOf w) := by unfold rd rdB; rw [decide_eq_true h, h1, decide_eq_true h2]; rfl
theorem sl_sl {l : List Nat} {a b c d : Nat} (hb : a + d ≤ b) : sl (sl l a b) c d = sl l (a + c) (a + d) := by
  unfold sl
  rw [List.drop_take, List.take_take, List.drop_drop]
  congr 1
  omega

set_option maxRecDepth 100000 in
set_option maxHeartbeats 1000000 in
theorem event_any (x : Addr) (cap : Nat) (bs : List Nat) (hcap : 24 ≤ cap) (w : World) (h : BRow w (some x) 24 bs) :
    Calls Try.prog 54 #[.slice (some x) 24 cap] w (EvR (rd bs) w) := by
  have b0 := h.byte (i := 0) (by decide)
  have b1 := h.byte (i := 1) (by decide)
  obtain ⟨y, hy, hc⟩ := h.2.2 (by decide)
  injection hy with hy; subst hy
  have c0 := hc 0 (by decide)
  have c1 := hc 1 (by decide)
  rw [show x.add 0 = x from rfl] at c0
  rw [add_pos x (by decide)] at c1
  have HC0 := Lib.hid c0
  have hx := World.block_lt_of_cell? w _ c0
  have RM := Lib.hid (fun h => rd_mark (w := bs) h)
  have RI := Lib.hid (fun h => rd_invalid (w := bs) h)
  have RS := Lib.hid (fun h => rd_sum (w := bs) h)
  have RG := Lib.hid (fun h h1 h2 => rd_good (w := bs) h h1 h2)
  have HE : Hid (evOf bs = ⟨be (sl (sl bs 2 8) 0 2), be (sl (sl bs 2 8) 2 6), be (sl bs 8 12), be (sl bs 12 16), bs[1]!, be (sl (sl bs 16 22) 0 2), be (sl (sl bs 16 22) 2 6)⟩) := Lib.hid (by
    rw [sl_sl (by decide), sl_sl (by decide), sl_sl (by decide), sl_sl (by decide)]; rfl)
  have BR := Lib.hid h
  clear hc h c0
  generalize bs[0]! = m0 at *
  generalize bs[1]! = m1 at *
  have G1 : Gr w (w.alloc (.cells #[.int .i64 0, .int .i64 0, .int .i64 0, .int .i64 0, .int .i64 0, .int .i64 0, .int .i64 0] 26)) := (Gr.refl w).alloc _
  have Z1 : Hid (BxE (w.alloc (.cells #[.int .i64 0, .int .i64 0, .int .i64 0, .int .i64 0, .int .i64 0, .int .i64 0, .int .i64 0] 26)) w.heap.size zE) := Lib.hid (BxE.new w zE 26)
  have z0 := HC0.out
  by_cases hm : m0 = 193
  case neg =>
    have t0 : ((m0 : Int) != 193) = true := by simp; omega
    have HR := Lib.hid (RM.out hm)
    clear RM RI RS RG HE Z1
    go_enter Try.func54, Try.ntmps54
    go_wp2_with fail
    exact bodyPost_ret (v := EvV none) (by simp [results, Try.results54, go_sem, EvV, vE, zE]) rfl ⟨by rw [HR.out], (Below.refl _ _).alloc (Nat.le_refl _) _⟩
  have t0 : ((m0 : Int) != 193) = false := by simp; omega
  have K1 : Hid (∀ W, Below w.heap.size w W → Calls Try.prog 74 #[.slice (some ⟨x.block, x.off + 2, none⟩) 6 (cap - 2)] W fun r W' => r = .returned (.agg #[.int .i64 (be (sl (sl bs 2 8) 0 2) : Nat), .int .i64 (be (sl (sl bs 2 8) 2 6) : Nat)]) ∧ Gr W W') :=
    Lib.hid fun W hb => (key_any _ _ (sl bs 2 8) (by omega) W ((BR.out.more hb).part 2 8 (by decide) (by decide) (by decide))).mono fun _ _ h => h
  have K2 : Hid (∀ W, Below w.heap.size w W → Calls Try.prog 74 #[.slice (some ⟨x.block, x.off + 16, none⟩) 6 (cap - 16)] W fun r W' => r = .returned (.agg #[.int .i64 (be (sl (sl bs 16 22) 0 2) : Nat), .int .i64 (be (sl (sl bs 16 22) 2 6) : Nat)]) ∧ Gr W W') :=
    Lib.hid fun W hb => (key_any _ _ (sl bs 16 22) (by omega) W ((BR.out.more hb).part 16 22 (by decide) (by decide) (by decide))).mono fun _ _ h => h
  have N1 : Hid (∀ W, Below w.heap.size w W → Calls Try.prog 75 #[.slice (some ⟨x.block, x.off + 8, none⟩) 4 (cap - 8)] W fun r W' => r = .returned (.int .i64 (be (sl bs 8 12) : Nat)) ∧ W' = W) :=
    Lib.hid fun W hb => num_any _ _ _ _ (by decide) W ((BR.out.more hb).part 8 12 (by decide) (by decide) (by decide))
  have N2 : Hid (∀ W, Below w.heap.size w W → Calls Try.prog 75 #[.slice (some ⟨x.block, x.off + 12, none⟩) 4 (cap - 12)] W fun r W' => r = .returned (.int .i64 (be (sl bs 12 16) : Nat)) ∧ W' = W) :=
    Lib.hid fun W hb => num_any _ _ _ _ (by decide) W ((BR.out.more hb).part 12 16 (by decide) (by decide) (by decide))
  have S1 : Hid (∀ W, Below w.heap.size w W → Calls Try.prog 21 #[.slice (some x) 22 cap] W fun r W' => r = .returned (.int .i64 (crc (sl bs 0 22) : Nat)) ∧ W' = W) :=
    Lib.hid fun W hb => sum_any _ _ _ _ (by decide) W ((BR.out.more hb).head 22 (by decide))
  have S2 : Hid (∀ W, Below w.heap.size w W → Calls Try.prog 75 #[.slice (some ⟨x.block, x.off + 22, none⟩) 2 (cap - 22)] W fun r W' => r = .returned (.int .i64 (be (sl bs 22 24) : Nat)) ∧ W' = W) :=
    Lib.hid fun W hb => num_any _ _ _ _ (by decide) W ((BR.out.more hb).part 22 24 (by decide) (by decide) (by decide))
  have VA := Lib.hid (fun W => valid_any (evOf bs) W)
  generalize be (sl (sl bs 2 8) 0 2) = a0 at *
  generalize be (sl (sl bs 2 8) 2 6) = a1 at *
  generalize be (sl bs 8 12) = a2 at *
  generalize be (sl bs 12 16) = a3 at *
  generalize be (sl (sl bs 16 22) 0 2) = a5 at *
  generalize be (sl (sl bs 16 22) 2 6) = a6 at *
  generalize crc (sl bs 0 22) = s1 at *
  generalize be (sl bs 22 24) = s2 at *
  rw [HE.out] at VA RI RG
  have RG' := Lib.hid (fun h1 h2 => RG.out hm h1 h2)
  subst hm
  generalize rd bs = R at *
  have CL : Hid (∀ W, Below w.heap.size w W → W.cell? ⟨x.block, x.off + 1, none⟩ = some (.int .u8 (m1 : Int))) := Lib.hid fun W hb => (hb.cell (p := ⟨x.block, x.off + 1, none⟩) hx).trans c1
  have q2 : (24 : Int) ≤ (cap : Int) := by omega
  have wm : IntKind.i64.wrap (m1 : Int) = (m1 : Int) := by rw [IntKind.wrap_i64]; omega
  have q8 : (2 : Int) ≤ (cap : Int) := by omega
  have q9 : (8 : Int) ≤ (cap : Int) := by omega
  have q10 : (12 : Int) ≤ (cap : Int) := by omega
  have q11 : (16 : Int) ≤ (cap : Int) := by omega
  have q12 : (22 : Int) ≤ (cap : Int) := by omega
  have q3 : ¬ cap = 2 := by omega
  have q4 : ¬ cap = 8 := by omega
  have q5 : ¬ cap = 12 := by omega
  have q6 : ¬ cap = 16 := by omega
  have q7 : ¬ cap = 22 := by omega
  have BA := Lib.hid (below_al (Below.refl w.heap.size w) (.cells #[.int .i64 0, .int .i64 0, .int .i64 0, .int .i64 0, .int .i64 0, .int .i64 0, .int .i64 0] 26))
  clear RM BR HC0 G1 HE RG
  go_enter Try.func54, Try.ntmps54
  go_upto_region 3 with fail
  generalize (w.alloc (.cells #[.int .i64 0, .int .i64 0, .int .i64 0, .int .i64 0, .int .i64 0, .int .i64 0, .int .i64 0] 26)) = wa at *
  have Z2 : Hid (BxE wa w.heap.size zE) := Z1
  clear z0 c1 Z1
  go_cut [4] (fun s wx => ∃ p : Nat, s = .pointer (some ⟨p, 0, none⟩) ∧ Hid (BxE wx p ⟨a0, a1, a2, a3, m1, a5, a6⟩) ∧ Hid (Below wa.heap.size wa wx))
  case first =>
    have BW : Hid (∀ W, Below wa.heap.size wa W → Below w.heap.size w W) := Lib.hid fun W hb => BA.out.trans (hb.mono BA.out.size)
    have K1w : Hid (∀ W, Below wa.heap.size wa W → Calls Try.prog 74 #[.slice (some ⟨x.block, x.off + 2, none⟩) 6 (cap - 2)] W fun r W' => r = .returned (.agg #[.int .i64 (a0 : Nat), .int .i64 (a1 : Nat)]) ∧ Below wa.heap.size wa W' ∧ Gr W W') :=
      Lib.hid fun W hb => (K1.out W (BW.out W hb)).mono fun _ _ h => ⟨h.1, hb.trans (h.2.below.mono hb.size), h.2⟩
    have K2w : Hid (∀ W, Below wa.heap.size wa W → Calls Try.prog 74 #[.slice (some ⟨x.block, x.off + 16, none⟩) 6 (cap - 16)] W fun r W' => r = .returned (.agg #[.int .i64 (a5 : Nat), .int .i64 (a6 : Nat)]) ∧ Below wa.heap.size wa W' ∧ Gr W W') :=
      Lib.hid fun W hb => (K2.out W (BW.out W hb)).mono fun _ _ h => ⟨h.1, hb.trans (h.2.below.mono hb.size), h.2⟩
    clear K1 K2 RI RG' S1 S2 VA
    go_region_held3 (fun w' => Below wa.heap.size wa w' ∧ w'.cell? ⟨x.block, x.off + 1, none⟩ = some (.int .u8 (m1 : Int)))
      (first | ((with_reducible refine ⟨?_, CL.out _ (BW.out _ ?_)⟩) <;> (repeat (first | (with_reducible assumption) | (with_reducible exact Below.refl _ _) | (with_reducible refine Below.drew ?_) | (with_reducible refine below_al ?_ _) | (with_reducible refine below_set ?_ ?_ _ _) | (with_reducible exact Nat.le_refl _) | (with_reducible exact Below.size (by with_reducible assumption))))))
      (first
        | (go_at_call 74; go_split_ands; (with_reducible refine (K1w.out _ (by with_reducible assumption)).mono ?_); rintro e w2 ⟨rfl, b2, g2⟩; have XB2 : BxE w2 wa.heap.size zE := (BxE.new wa zE 26).keep (g2.below.block wa.heap.size (by simp)); obtain ⟨x0, x1, x2, x3, x4, x5, x6⟩ := XB2.at7; have zb := XB2.lt; have f0 := XB2.free 0 (by decide); have f1 := XB2.free 1 (by decide); have f2 := XB2.free 2 (by decide); have f3 := XB2.free 3 (by decide); have f4 := XB2.free 4 (by decide); have f5 := XB2.free 5 (by decide); have f6 := XB2.free 6 (by decide))
        | (go_at_call 74; go_split_ands; (with_reducible refine (K1w.out _ (by with_reducible assumption)).mono ?_); rintro e w2 ⟨rfl, b2, g2⟩)
        | (go_at_call 74; go_split_ands; (with_reducible refine (K2w.out _ (by with_reducible assumption)).mono ?_); rintro e w3 ⟨rfl, b3, g3⟩; have XB3 : BxE w3 wa.heap.size zE := XB2.keep (g3.below.block wa.heap.size XB2.lt); obtain ⟨x0, x1, x2, x3, x4, x5, x6⟩ := XB3.at7; have zb := XB3.lt; have f0 := XB3.free 0 (by decide); have f1 := XB3.free 1 (by decide); have f2 := XB3.free 2 (by decide); have f3 := XB3.free 3 (by decide); have f4 := XB3.free 4 (by decide); have f5 := XB3.free 5 (by decide); have f6 := XB3.free 6 (by decide))
        | (go_at_call 74; go_split_ands; (with_reducible refine (K2w.out _ (by with_reducible assumption)).mono ?_); rintro e w3 ⟨rfl, b3, g3⟩; have XB3 : BxE w3 _ zE := (BxE.new _ zE 26).keep (g3.below.block _ (by simp)); obtain ⟨x0, x1, x2, x3, x4, x5, x6⟩ := XB3.at7; have zb := XB3.lt; have f0 := XB3.free 0 (by decide); have f1 := XB3.free 1 (by decide); have f2 := XB3.free 2 (by decide); have f3 := XB3.free 3 (by decide); have f4 := XB3.free 4 (by decide); have f5 := XB3.free 5 (by decide); have f6 := XB3.free 6 (by decide))
        | (go_at_call 74; go_split_ands; (with_reducible refine (K2w.out _ (by with_reducible assumption)).mono ?_); rintro e w3 ⟨rfl, b3, g3⟩)
        | (go_at_call 75; go_split_ands; (with_reducible refine (N1.out _ (BW.out _ (by with_reducible assumption))).mono ?_); rintro e w4 ⟨rfl, rfl⟩)
        | (go_at_call 75; go_split_ands; (with_reducible refine (N2.out _ (BW.out _ (by with_reducible assumption))).mono ?_); rintro e w4 ⟨rfl, rfl⟩))
    all_goals go_split_ands
    all_goals go_wp2_with fail
    all_goals go_meet
    all_goals refine ⟨_, rfl, Lib.hid ?_, Lib.hid ?_⟩
    all_goals first
      | (with_reducible assumption)
      | (exact BxE.put XB3 ⟨a0, a1, a2, a3, m1, a5, a6⟩)
      | (exact BxE.new _ ⟨a0, a1, a2, a3, m1, a5, a6⟩ _)
      | (exact (BxE.new _ ⟨a0, a1, a2, a3, m1, a5, a6⟩ _).keep rfl)
      | (repeat (first | (with_reducible assumption) | (with_reducible exact Below.refl _ _) | (with_reducible refine Below.drew ?_) | (with_reducible refine below_al ?_ _) | (with_reducible refine below_set ?_ ?_ _ _) | (with_reducible exact Nat.le_refl _) | (with_reducible exact Below.size (by with_reducible assumption))))
  case rest =>
    clear K1 K2 N1 N2 CL q2 q8 q9 q10 q11 q3 q4 q5 q6
    obtain ⟨p, hs, HX, HBc⟩ := hcut
    subst hs
    obtain ⟨wq, hwq⟩ : ∃ wq, wq = wc := ⟨_, rfl⟩
    subst hwq
    have mixed : Try.prog.follows Departure.mixedOrders = true := by kernel_rfl
    have BB := Lib.hid (fun W (h : Gr wq W) => BA.out.trans ((HBc.out.trans (h.below.mono HBc.out.size)).mono BA.out.size))
    have VG : Hid (∀ W, Gr wq W → Calls Try.prog 19 #[.agg #[.int .i64 a0, .int .i64 a1, .int .i64 a2, .int .i64 a3, .int .i64 m1, .int .i64 a5, .int .i64 a6]] W fun r W' => r = .returned (.bool (okE ⟨a0, a1, a2, a3, m1, a5, a6⟩)) ∧ Gr wq W') := Lib.hid fun W hg => (VA.out W).mono fun _ _ h => ⟨h.1, hg.trans h.2⟩
    have SG : Hid (∀ W, Gr wq W → Calls Try.prog 21 #[.slice (some x) 22 cap] W fun r W' => r = .returned (.int .i64 (s1 : Nat)) ∧ W' = W) := Lib.hid fun W hg => S1.out W (BB.out W hg)
    have NG : Hid (∀ W, Gr wq W → Calls Try.prog 75 #[.slice (some ⟨x.block, x.off + 22, none⟩) 2 (cap - 22)] W fun r W' => r = .returned (.int .i64 (s2 : Nat)) ∧ W' = W) := Lib.hid fun W hg => S2.out W (BB.out W hg)
    have L : Hid (∀ W, Gr wq W → W.cell? ⟨p, 0, none⟩ = some (.int .i64 a0) ∧ W.cell? ⟨p, 1, none⟩ = some (.int .i64 a1) ∧ W.cell? ⟨p, 2, none⟩ = some (.int .i64 a2) ∧ W.cell? ⟨p, 3, none⟩ = some (.int .i64 a3) ∧ W.cell? ⟨p, 4, none⟩ = some (.int .i64 m1) ∧ W.cell? ⟨p, 5, none⟩ = some (.int .i64 a5) ∧ W.cell? ⟨p, 6, none⟩ = some (.int .i64 a6)) := Lib.hid fun W hg => (HX.out.keep (hg.below.block p HX.out.lt)).at7
    obtain ⟨e0, e1, e2, e3, e4, e5, e6⟩ := L.out wq.drew (Gr.drew (Gr.refl _))
    have ZC := Lib.hid (Z2.out.keep (HBc.out.block _ Z2.out.lt))
    have BC := Lib.hid (BA.out.trans (HBc.out.mono BA.out.size))
    clear VA S1 S2 BB Z2 BA HBc
    clear t0 b0
    generalize hB : okE ⟨a0, a1, a2, a3, m1, a5, a6⟩ = B at *
    clear hB
    go_wp2_with fail
    cases B
    · have HR := Lib.hid (RI.out rfl)
      clear RG' RS RI
      go_cut [38] (fun s wx => s = .bool true ∧ Hid (Gr wq wx))
      case first =>
        first
          | (go_region_held (fun w' => w'.cell? ⟨p, 0, none⟩ = some (.int .i64 a0) ∧ w'.cell? ⟨p, 1, none⟩ = some (.int .i64 a1) ∧ w'.cell? ⟨p, 2, none⟩ = some (.int .i64 a2) ∧ w'.cell? ⟨p, 3, none⟩ = some (.int .i64 a3) ∧ w'.cell? ⟨p, 4, none⟩ = some (.int .i64 m1) ∧ w'.cell? ⟨p, 5, none⟩ = some (.int .i64 a5) ∧ w'.cell? ⟨p, 6, none⟩ = some (.int .i64 a6)) (first | (with_reducible exact ⟨e0, e1, e2, e3, e4, e5, e6⟩) | (with_reducible exact ⟨y0, y1, y2, y3, y4, y5, y6⟩)) (first | (go_at_call 19; (with_reducible refine (VG.out _ (by first | (with_reducible assumption) | exact Gr.drew (Gr.refl _))).mono ?_); rintro e w5 ⟨rfl, g5⟩; obtain ⟨y0, y1, y2, y3, y4, y5, y6⟩ := L.out _ g5) | (go_at_call 21; (with_reducible refine (SG.out _ g5).mono ?_); rintro e w6 ⟨rfl, rfl⟩) | (go_at_call 75; (with_reducible refine (NG.out _ (by with_reducible assumption)).mono ?_); rintro e w7 ⟨rfl, rfl⟩)))
          | fail
        all_goals go_wp2_with fail
        all_goals go_meet
        all_goals exact ⟨rfl, Lib.hid (by with_reducible assumption)⟩
      case rest =>
      clear e0 e1 e2 e3 e4 e5 e6 VG L
      obtain ⟨hs2, hG⟩ := hcut
      subst hs2
      obtain ⟨wd, hwd⟩ : ∃ wd, wd = wc := ⟨_, rfl⟩
      subst hwd
      have GD := hG.out
      have BD := Lib.hid (BC.out.trans (GD.below.mono BC.out.size))
      have ZD := Lib.hid (ZC.out.keep (GD.below.block _ ZC.out.lt))
      obtain ⟨z0, z1, z2, z3, z4, z5, z6⟩ := ZD.out.at7
      have g0 := ZD.out.free 0 (by decide)
      have g1 := ZD.out.free 1 (by decide)
      have g2 := ZD.out.free 2 (by decide)
      have g3 := ZD.out.free 3 (by decide)
      have g4 := ZD.out.free 4 (by decide)
      have g5 := ZD.out.free 5 (by decide)
      have g6 := ZD.out.free 6 (by decide)
      simp only [zE] at z0 z1 z2 z3 z4 z5 z6
      clear hG GD ZC BC SG NG
      go_wp2_with fail
      have ZF := Lib.hid (BxE.put ZD.out zE)
      have BF := Lib.hid (put7_below BD.out (Nat.le_refl _) zE)
      clear z0 z1 z2 z3 z4 z5 z6 g0 g1 g2 g3 g4 g5 g6 ZD BD
      unfold put7 at ZF BF
      simp only [zE] at ZF BF
      obtain ⟨y0, y1, y2, y3, y4, y5, y6⟩ := ZF.out.at7
      simp only at y0 y1 y2 y3 y4 y5 y6
      exact bodyPost_ret (v := EvV none) (by simp [results, Try.results54, go_sem, EvV, vE, zE, y0, y1, y2, y3, y4, y5, y6]) rfl ⟨by rw [HR.out], BF.out⟩
    · by_cases h12 : s1 = s2
      · subst h12
        have ts : ((s1 : Int) != (s1 : Int)) = false := by simp
        have HR := Lib.hid (RG'.out rfl rfl)
        clear RG' RS RI
        go_cut [38] (fun s wx => s = .bool false ∧ Hid (Gr wq wx))
        case first =>
          first
            | (go_region_held (fun w' => w'.cell? ⟨p, 0, none⟩ = some (.int .i64 a0) ∧ w'.cell? ⟨p, 1, none⟩ = some (.int .i64 a1) ∧ w'.cell? ⟨p, 2, none⟩ = some (.int .i64 a2) ∧ w'.cell? ⟨p, 3, none⟩ = some (.int .i64 a3) ∧ w'.cell? ⟨p, 4, none⟩ = some (.int .i64 m1) ∧ w'.cell? ⟨p, 5, none⟩ = some (.int .i64 a5) ∧ w'.cell? ⟨p, 6, none⟩ = some (.int .i64 a6)) (first | (with_reducible exact ⟨e0, e1, e2, e3, e4, e5, e6⟩) | (with_reducible exact ⟨y0, y1, y2, y3, y4, y5, y6⟩)) (first | (go_at_call 19; (with_reducible refine (VG.out _ (by first | (with_reducible assumption) | exact Gr.drew (Gr.refl _))).mono ?_); rintro e w5 ⟨rfl, g5⟩; obtain ⟨y0, y1, y2, y3, y4, y5, y6⟩ := L.out _ g5) | (go_at_call 21; (with_reducible refine (SG.out _ g5).mono ?_); rintro e w6 ⟨rfl, rfl⟩) | (go_at_call 75; (with_reducible refine (NG.out _ (by with_reducible assumption)).mono ?_); rintro e w7 ⟨rfl, rfl⟩)))
            | fail
          all_goals go_wp2_with fail
          all_goals go_meet
          all_goals exact ⟨rfl, Lib.hid (by with_reducible assumption)⟩
        case rest =>
        clear e0 e1 e2 e3 e4 e5 e6 VG L
        obtain ⟨hs2, hG⟩ := hcut
        subst hs2
        obtain ⟨wd, hwd⟩ : ∃ wd, wd = wc := ⟨_, rfl⟩
        subst hwd
        have GD := hG.out
        have BD := Lib.hid (BC.out.trans (GD.below.mono BC.out.size))
        have ZD := Lib.hid (ZC.out.keep (GD.below.block _ ZC.out.lt))
        obtain ⟨z0, z1, z2, z3, z4, z5, z6⟩ := ZD.out.at7
        have g0 := ZD.out.free 0 (by decide)
        have g1 := ZD.out.free 1 (by decide)
        have g2 := ZD.out.free 2 (by decide)
        have g3 := ZD.out.free 3 (by decide)
        have g4 := ZD.out.free 4 (by decide)
        have g5 := ZD.out.free 5 (by decide)
        have g6 := ZD.out.free 6 (by decide)
        obtain ⟨x0, x1, x2, x3, x4, x5, x6⟩ := (HX.out.keep (GD.below.block p HX.out.lt)).at7
        simp only at x0 x1 x2 x3 x4 x5 x6
        simp only [zE] at z0 z1 z2 z3 z4 z5 z6
        clear hG GD ZC BC SG NG
        go_wp2_with fail
        have ZF := Lib.hid (BxE.put ZD.out ⟨a0, a1, a2, a3, m1, a5, a6⟩)
        have BF := Lib.hid (put7_below BD.out (Nat.le_refl _) ⟨a0, a1, a2, a3, m1, a5, a6⟩)
        clear z0 z1 z2 z3 z4 z5 z6 g0 g1 g2 g3 g4 g5 g6 ZD BD
        unfold put7 at ZF BF
        simp only at ZF BF
        obtain ⟨y0, y1, y2, y3, y4, y5, y6⟩ := ZF.out.at7
        simp only at y0 y1 y2 y3 y4 y5 y6
        exact bodyPost_ret (v := EvV (some ⟨a0, a1, a2, a3, m1, a5, a6⟩)) (by simp [results, Try.results54, go_sem, EvV, vE, y0, y1, y2, y3, y4, y5, y6]) rfl ⟨by rw [HR.out], BF.out⟩
      · have ts : ((s1 : Int) != (s2 : Int)) = true := by simp; omega
        have HR := Lib.hid (RS.out h12)
        clear RG' RS RI
        go_cut [38] (fun s wx => s = .bool true ∧ Hid (Gr wq wx))
        case first =>
          first
            | (go_region_held (fun w' => w'.cell? ⟨p, 0, none⟩ = some (.int .i64 a0) ∧ w'.cell? ⟨p, 1, none⟩ = some (.int .i64 a1) ∧ w'.cell? ⟨p, 2, none⟩ = some (.int .i64 a2) ∧ w'.cell? ⟨p, 3, none⟩ = some (.int .i64 a3) ∧ w'.cell? ⟨p, 4, none⟩ = some (.int .i64 m1) ∧ w'.cell? ⟨p, 5, none⟩ = some (.int .i64 a5) ∧ w'.cell? ⟨p, 6, none⟩ = some (.int .i64 a6)) (first | (with_reducible exact ⟨e0, e1, e2, e3, e4, e5, e6⟩) | (with_reducible exact ⟨y0, y1, y2, y3, y4, y5, y6⟩)) (first | (go_at_call 19; (with_reducible refine (VG.out _ (by first | (with_reducible assumption) | exact Gr.drew (Gr.refl _))).mono ?_); rintro e w5 ⟨rfl, g5⟩; obtain ⟨y0, y1, y2, y3, y4, y5, y6⟩ := L.out _ g5) | (go_at_call 21; (with_reducible refine (SG.out _ g5).mono ?_); rintro e w6 ⟨rfl, rfl⟩) | (go_at_call 75; (with_reducible refine (NG.out _ (by with_reducible assumption)).mono ?_); rintro e w7 ⟨rfl, rfl⟩)))
            | fail
          all_goals go_wp2_with fail
          all_goals go_meet
          all_goals exact ⟨rfl, Lib.hid (by with_reducible assumption)⟩
        case rest =>
        clear e0 e1 e2 e3 e4 e5 e6 VG L
        obtain ⟨hs2, hG⟩ := hcut
        subst hs2
        obtain ⟨wd, hwd⟩ : ∃ wd, wd = wc := ⟨_, rfl⟩
        subst hwd
        have GD := hG.out
        have BD := Lib.hid (BC.out.trans (GD.below.mono BC.out.size))
        have ZD := Lib.hid (ZC.out.keep (GD.below.block _ ZC.out.lt))
        obtain ⟨z0, z1, z2, z3, z4, z5, z6⟩ := ZD.out.at7
        have g0 := ZD.out.free 0 (by decide)
        have g1 := ZD.out.free 1 (by decide)
        have g2 := ZD.out.free 2 (by decide)
        have g3 := ZD.out.free 3 (by decide)
        have g4 := ZD.out.free 4 (by decide)
        have g5 := ZD.out.free 5 (by decide)
        have g6 := ZD.out.free 6 (by decide)
        simp only [zE] at z0 z1 z2 z3 z4 z5 z6
        clear hG GD ZC BC SG NG
        go_wp2_with fail
        have ZF := Lib.hid (BxE.put ZD.out zE)
        have BF := Lib.hid (put7_below BD.out (Nat.le_refl _) zE)
        clear z0 z1 z2 z3 z4 z5 z6 g0 g1 g2 g3 g4 g5 g6 ZD BD
        unfold put7 at ZF BF
        simp only [zE] at ZF BF
        obtain ⟨y0, y1, y2, y3, y4, y5, y6⟩ := ZF.out.at7
        simp only at y0 y1 y2 y3 y4 y5 y6
        exact bodyPost_ret (v := EvV none) (by simp [results, Try.results54, go_sem, EvV, vE, zE, y0, y1, y2, y3, y4, y5, y6]) rfl ⟨by rw [HR.out], BF.out⟩
end Go.Proofs.Ytebdldinlodgpaa.Rc
