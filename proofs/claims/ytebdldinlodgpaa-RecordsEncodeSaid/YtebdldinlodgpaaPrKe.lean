/-
  Layer 7 (records): the walk of RecordsEncode: the answer is true. Condition: the numbers fit their kinds.
-/
import Derived.Test.YtebdldinlodgpaaPrKd
import Derived.Deep.Cut
import Derived.Deep.CutRange
import Derived.Deep.DeepCutAuto
import Derived.Deep.CutBlock
namespace Go.Proofs.Ytebdldinlodgpaa.Rc
open Go Go.RowKit Go.Lib Go.Sort Go.Shelf Go.Proofs Go.Proofs.Ytebdldinlodgpaa Go.Proofs.Ytebdldinlodgpaa.Tp
set_option linter.unusedVariables false

theorem isrow_more {w w' : World} {a : Option Addr} {len cap : Nat} {zs : List Int} (h : IsRow w a len cap zs) (hb : Below w.heap.size w w') : IsRow w' a len cap zs := by
  rcases h with h | ⟨x, e, h1, h2, h3, h4, h5⟩
  · exact .inl h
  · exact .inr ⟨x, e, h1, h2, h3, fun i hi => (hb.cell (World.block_lt_of_cell? w _ (h4 i hi))).trans (h4 i hi), h5⟩
set_option maxRecDepth 100000 in
set_option maxHeartbeats 8000000 in
theorem encode_walk (t0 : Option Addr) (len cap : Nat) (zs : List Int) (e : Ev) (ra : Option Addr) (rn rc : Nat) (rb : List Nat) (w : World) (hraw : BRow w ra rn rb) (hr : IsRow w t0 len cap zs) (hlen : len ≤ 9223372036854775807) :
    Calls Try.prog 3 #[.slice t0 len cap, vE e, .slice ra rn rc] w (TrueR w) := by
  obtain ⟨kt, ks, em, ti, ki, tt, ts⟩ := e
  have BA : Hid (Below w.heap.size w (w.alloc (.cells #[.int .i64 kt, .int .i64 ks, .int .i64 em, .int .i64 ti, .int .i64 ki, .int .i64 tt, .int .i64 ts] 26))) := Lib.hid ((Below.refl _ _).alloc (Nat.le_refl _) _)
  have sz : (w.alloc (.cells #[.int .i64 kt, .int .i64 ks, .int .i64 em, .int .i64 ti, .int .i64 ki, .int .i64 tt, .int .i64 ts] 26)).heap.size = w.heap.size + 1 := size_alloc _ _
  have XP : Hid (BxE (w.alloc (.cells #[.int .i64 kt, .int .i64 ks, .int .i64 em, .int .i64 ti, .int .i64 ki, .int .i64 tt, .int .i64 ts] 26)) w.heap.size ⟨kt, ks, em, ti, ki, tt, ts⟩) := Lib.hid (BxE.new w ⟨kt, ks, em, ti, ki, tt, ts⟩ 26)
  have hr1 : IsRow (w.alloc (.cells #[.int .i64 kt, .int .i64 ks, .int .i64 em, .int .i64 ti, .int .i64 ki, .int .i64 tt, .int .i64 ts] 26)) t0 len cap zs := isrow_more hr BA.out
  have T0 := Lib.hid (tape_new hr1 hlen 73)
  have B0 : Hid (Below w.heap.size w ((w.alloc (.cells #[.int .i64 kt, .int .i64 ks, .int .i64 em, .int .i64 ti, .int .i64 ki, .int .i64 tt, .int .i64 ts] 26)).alloc (.cells #[.slice t0 len cap, .int .i64 0] 73))) := Lib.hid (BA.out.alloc (by rw [sz]; omega) _)
  have XP1 := Lib.hid (XP.out.alloc (.cells #[.slice t0 len cap, .int .i64 0] 73))
  rw [sz] at T0
  have RB := Lib.hid hraw
  clear hr hlen hraw hr1 BA XP
  unfold vE
  simp only
  go_enter Try.func3, Try.ntmps3
  go_wp2_with fail
  refine (gnew_any t0 len cap _).mono ?_
  rintro r w1 ⟨rfl, rfl⟩
  rw [sz]
  generalize (w.alloc (.cells #[.int .i64 kt, .int .i64 ks, .int .i64 em, .int .i64 ti, .int .i64 ki, .int .i64 tt, .int .i64 ts] 26)).alloc (.cells #[.slice t0 len cap, .int .i64 0] 73) = w1 at *
  clear sz
  generalize hb : w.heap.size + 1 = b at *
  have nb : w.heap.size ≠ b := by omega
  have HBB : Hid (w.heap.size ≤ b) := Lib.hid (by omega)
  clear hb
  go_wp2_with fail
  go_loopw [8] (fun z wr => ∃ k : Nat, k ≤ 5 ∧ z = .int .i64 k ∧ Hid (TapeAt b wr) ∧ Hid (Only b w1 wr)) (fun z _ => (5 - intOf z).toNat)
  case atStart => exact ⟨0, by omega, rfl, T0, Lib.hid (Only.refl _ _)⟩
  case round =>
    clear T0
    obtain ⟨k, hk, rfl, HT, HO⟩ := hrel
    by_cases hlt : k < 5
    · have i1 : decide ((k : Int) < 5) = true := decide_eq_true (by omega)
      go_wp2_with fail
      refine (gevent_any b _ HT.out).mono ?_
      rintro r w2 ⟨e0, rfl, oke, T2, O2⟩
      have HO2 := Lib.hid (HO.out.trans O2)
      have HT2 := Lib.hid T2
      clear T2 O2 HT HO oke
      obtain ⟨n0, n1, n2, n3, n4, n5, n6⟩ := e0
      unfold vE
      simp only
      have npb : w2.heap.size ≠ b := by have := HT2.out.lt; omega
      have hbp : b < w2.heap.size := HT2.out.lt
      have X3 : Hid (BxE (w2.alloc (.cells #[.int .i64 n0, .int .i64 n1, .int .i64 n2, .int .i64 n3, .int .i64 n4, .int .i64 n5, .int .i64 n6] 26)) w2.heap.size ⟨n0, n1, n2, n3, n4, n5, n6⟩) := Lib.hid (BxE.new w2 ⟨n0, n1, n2, n3, n4, n5, n6⟩ 26)
      have T3 := Lib.hid (HT2.out.alloc (.cells #[.int .i64 n0, .int .i64 n1, .int .i64 n2, .int .i64 n3, .int .i64 n4, .int .i64 n5, .int .i64 n6] 26))
      have O3 := Lib.hid (HO2.out.alloc (.cells #[.int .i64 n0, .int .i64 n1, .int .i64 n2, .int .i64 n3, .int .i64 n4, .int .i64 n5, .int .i64 n6] 26))
      have HLE := Lib.hid HO2.out.size
      clear HT2 HO2
      go_upto_block 2 with fail
      go_cut [9] (fun s wx => s = .pointer (some ⟨w2.heap.size, 0, none⟩) ∧ ∃ e : Ev, Hid (TapeAt b wx) ∧ Hid (Only b w1 wx) ∧ Hid (BxE wx w2.heap.size e))
      case first =>
        obtain ⟨x0, x1, x2, x3, x4, x5, x6⟩ := X3.out.at7
        simp only at x0 x1 x2 x3 x4 x5 x6
        by_cases k3 : k = 3
        · have s3 : ((k : Int) == 3) = true := by simp; omega
          have SC := Lib.hid (fun W h => spoil_any b ⟨n0, n1, n2, n3, n4, n5, n6⟩ W h)
          unfold vE at SC
          simp only at SC
          clear k3
          go_wp2_with fail
          refine (SC.out _ T3.out).mono ?_
          rintro r w3 ⟨e, rfl, T4, O4⟩
          have X4 := Lib.hid (X3.out.only O4 npb)
          have H4 := Lib.hid T4
          have P4 := Lib.hid (O3.out.trans O4)
          clear T4 O4 SC X3 T3 O3 x0 x1 x2 x3 x4 x5 x6
          obtain ⟨x0, x1, x2, x3, x4, x5, x6⟩ := X4.out.at7
          have g0 := X4.out.free 0 (by decide)
          have g1 := X4.out.free 1 (by decide)
          have g2 := X4.out.free 2 (by decide)
          have g3 := X4.out.free 3 (by decide)
          have g4 := X4.out.free 4 (by decide)
          have g5 := X4.out.free 5 (by decide)
          have g6 := X4.out.free 6 (by decide)
          simp only at x0 x1 x2 x3 x4 x5 x6
          obtain ⟨e0, e1, e2, e3, e4, e5, e6⟩ := e
          unfold vE
          simp only
          go_wp2_with fail
          have HF := Lib.hid (put7_tape H4.out hbp ⟨e0, e1, e2, e3, e4, e5, e6⟩)
          have PF := Lib.hid (put7_only P4.out HLE.out ⟨e0, e1, e2, e3, e4, e5, e6⟩)
          have ZF := Lib.hid (BxE.put X4.out ⟨e0, e1, e2, e3, e4, e5, e6⟩)
          clear x0 x1 x2 x3 x4 x5 x6 g0 g1 g2 g3 g4 g5 g6
          unfold put7 at HF PF ZF
          simp only at HF PF ZF
          go_meet
          exact ⟨rfl, ⟨e0, e1, e2, e3, e4, e5, e6⟩, HF, PF, ZF⟩
        · have s3 : ((k : Int) == 3) = false := by simp; omega
          by_cases k4 : k = 4
          · have s4 : ((k : Int) == 4) = true := by simp; omega
            have XP3 := Lib.hid (XP1.out.only O3.out nb)
            obtain ⟨y0, y1, y2, y3, y4, y5, y6⟩ := XP3.out.at7
            have g0 := X3.out.free 0 (by decide)
            have g1 := X3.out.free 1 (by decide)
            have g2 := X3.out.free 2 (by decide)
            have g3 := X3.out.free 3 (by decide)
            have g4 := X3.out.free 4 (by decide)
            have g5 := X3.out.free 5 (by decide)
            have g6 := X3.out.free 6 (by decide)
            simp only at y0 y1 y2 y3 y4 y5 y6
            generalize w2.alloc (.cells #[.int .i64 n0, .int .i64 n1, .int .i64 n2, .int .i64 n3, .int .i64 n4, .int .i64 n5, .int .i64 n6] 26) = wn at *
            clear k3 k4
            go_wp2_with fail
            have HF := Lib.hid (put7_tape T3.out hbp ⟨kt, ks, em, ti, ki, tt, ts⟩)
            have PF := Lib.hid (put7_only O3.out HLE.out ⟨kt, ks, em, ti, ki, tt, ts⟩)
            have ZF := Lib.hid (BxE.put X3.out ⟨kt, ks, em, ti, ki, tt, ts⟩)
            clear x0 x1 x2 x3 x4 x5 x6 g0 g1 g2 g3 g4 g5 g6 y0 y1 y2 y3 y4 y5 y6
            unfold put7 at HF PF ZF
            simp only at HF PF ZF
            go_meet
            exact ⟨rfl, ⟨kt, ks, em, ti, ki, tt, ts⟩, HF, PF, ZF⟩
          · have s4 : ((k : Int) == 4) = false := by simp; omega
            clear k3 k4
            go_wp2_with fail
            go_meet
            exact ⟨rfl, ⟨n0, n1, n2, n3, n4, n5, n6⟩, T3, O3, X3⟩
      case rest =>
      obtain ⟨hs, e, T4, O4, X4⟩ := hcut
      subst hs
      clear X3 T3 O3
      obtain ⟨w3, hw3⟩ : ∃ w3, w3 = wc := ⟨_, rfl⟩
      subst hw3
      obtain ⟨x0, x1, x2, x3, x4, x5, x6⟩ := X4.out.at7
      have EC := Lib.hid (fun W => encU_any e W)
      have RC := Lib.hid (fun W => rencU_any e W)
      have VC := Lib.hid (fun W => valid_any e W)
      have RV := Lib.hid (fun W => rvalid_any e W)
      unfold vE at EC RC VC RV
      obtain ⟨e0, e1, e2, e3, e4, e5, e6⟩ := e
      simp only at EC RC VC RV x0 x1 x2 x3 x4 x5 x6
      unfold EncU at EC RC
      generalize outC ⟨e0, e1, e2, e3, e4, e5, e6⟩ = C at *
      generalize outB ⟨e0, e1, e2, e3, e4, e5, e6⟩ = F at *
      generalize okE ⟨e0, e1, e2, e3, e4, e5, e6⟩ = B at *
      go_wp2_with fail
      refine (EC.out _).mono ?_
      rintro r w4 ⟨a4, c4, rfl, b4, r4, f4⟩
      have B4 := Lib.hid b4
      have R4 := Lib.hid r4
      have F4 := Lib.hid f4
      have X5 := Lib.hid (X4.out.keep (b4.block _ X4.out.lt))
      clear b4 r4 f4 x0 x1 x2 x3 x4 x5 x6
      obtain ⟨x0, x1, x2, x3, x4, x5, x6⟩ := X5.out.at7
      simp only at x0 x1 x2 x3 x4 x5 x6
      go_wp2_with fail
      refine (RC.out _).mono ?_
      rintro r w5 ⟨a5, c5, rfl, b5, r5, f5⟩
      have B5 := Lib.hid b5
      have R5 := Lib.hid r5
      have F5 := Lib.hid f5
      have X6 := Lib.hid (X5.out.keep (b5.block _ X5.out.lt))
      have BB := Lib.hid (B4.out.trans (b5.mono B4.out.size))
      clear b5 r5 f5 x0 x1 x2 x3 x4 x5 x6 EC RC
      have HT5 := Lib.hid (T4.out.below BB.out)
      have HO5 := Lib.hid (O4.out.trans (Only.of_below BB.out))
      clear T4 O4 X4 X5 B4
      go_upto_region 13 with fail
      go_cut [57] (fun s wx => s = .bool false ∧ Hid (Below w5.heap.size w5 wx))
      case first =>
        clear HT5 HO5 BB RB XP1 B0
        have mixed : Try.prog.follows Departure.mixedOrders = true := by kernel_rfl
        have VG : Hid (∀ P : BelowBy w5, Calls Try.prog 19 #[.agg #[.int .i64 e0, .int .i64 e1, .int .i64 e2, .int .i64 e3, .int .i64 e4, .int .i64 e5, .int .i64 e6]] P.W fun r W' => r = .returned (.bool B) ∧ ∃ p2 : BelowBy w5, W' = p2.W) := Lib.hid fun P => (VC.out P.W).mono fun _ W' h => ⟨h.1, ⟨W', P.h.trans (h.2.below.mono P.h.size)⟩, rfl⟩
        have RG : Hid (∀ P : BelowBy w5, Calls Try.prog 20 #[.agg #[.int .i64 e0, .int .i64 e1, .int .i64 e2, .int .i64 e3, .int .i64 e4, .int .i64 e5, .int .i64 e6]] P.W fun r W' => r = .returned (.bool B) ∧ ∃ p2 : BelowBy w5, W' = p2.W) := Lib.hid fun P => (RV.out P.W).mono fun _ W' h => ⟨h.1, ⟨W', P.h.trans (h.2.below.mono P.h.size)⟩, rfl⟩
        have L : Hid (∀ P : BelowBy w5, BxE P.W w2.heap.size ⟨e0, e1, e2, e3, e4, e5, e6⟩) := Lib.hid fun P => X6.out.keep (P.h.block _ X6.out.lt)
        have c0 := fun P : BelowBy w5 => (L.out P).at7.1
        have c1 := fun P : BelowBy w5 => (L.out P).at7.2.1
        have c2 := fun P : BelowBy w5 => (L.out P).at7.2.2.1
        have c3 := fun P : BelowBy w5 => (L.out P).at7.2.2.2.1
        have c4' := fun P : BelowBy w5 => (L.out P).at7.2.2.2.2.1
        have c5' := fun P : BelowBy w5 => (L.out P).at7.2.2.2.2.2.1
        have c6 := fun P : BelowBy w5 => (L.out P).at7.2.2.2.2.2.2
        have v1 := fun P : BelowBy w5 => conv_bytes (cap := c4) ((R4.out.more B5.out).more P.h) F4.out
        have v2 := fun P : BelowBy w5 => conv_bytes (cap := c5) (R5.out.more P.h) F5.out
        simp only at c0 c1 c2 c3 c4' c5' c6
        generalize strOfNums (F.map (fun x : Nat => (x : Int))) = S at v1 v2
        clear VC RV L X6 R4 R5 B5 F4 F5
        refine wp_region_quiet_below mixed (by kernel_rfl) (Below.refl _ _) ?_
        repeat (go_big_quiet_step ((first | (go_at_call 19; exact VG.out _) | (go_at_call 20; exact RG.out _))))
        refine wpQuiet_nil ?_
        intro wz hz
        obtain ⟨⟨wz2, bz⟩, hz2⟩ := hz
        subst hz2
        go_wp2_with fail
        go_meet
        exact ⟨by simp, Lib.hid bz⟩
      case rest =>
      obtain ⟨hs, B6⟩ := hcut
      subst hs
      have HT6 := Lib.hid (HT5.out.below B6.out)
      have HO6 := Lib.hid (HO5.out.trans (Only.of_below B6.out))
      go_wp2_with fail
      go_roundw
      case rel => exact ⟨k + 1, by omega, by go_num, HT6, HO6⟩
      case measure => simp [intOf]; omega
    · obtain rfl : k = 5 := by omega
      have i1 : decide (((5 : Nat) : Int) < 5) = false := by decide
      have BW : Hid (Below w.heap.size w wr) := Lib.hid (B0.out.trans (HO.out.below HBB.out B0.out.size))
      have RB2 := Lib.hid (RB.out.more BW.out)
      clear HT HO XP1 B0 RB
      by_cases h5 : rn ≤ 5000
      · have t0 : decide ((5000 : Int) < (rn : Int)) = false := decide_eq_false (by omega)
        have t1 : decide (5000 < rn) = false := decide_eq_false (by omega)
        go_wp2_with fail
        refine (sum_any ra rn rc rb (by omega) _ RB2.out).mono ?_
        rintro r w7 ⟨rfl, rfl⟩
        go_wp2_with fail
        refine (rsum_any ra rn rc rb (by omega) _ RB2.out).mono ?_
        rintro r w8 ⟨rfl, rfl⟩
        go_wp2_with fail
        refine (sane_any _).mono ?_
        rintro r w9 ⟨rfl, b9⟩
        go_wp2_with fail
        go_ret
        exact ⟨rfl, BW.out.trans (b9.mono BW.out.size)⟩
      · have t0 : decide ((5000 : Int) < (rn : Int)) = true := decide_eq_true (by omega)
        have t1 : decide (5000 < rn) = true := decide_eq_true (by omega)
        go_wp2_with fail
        refine (sane_any _).mono ?_
        rintro r w9 ⟨rfl, b9⟩
        go_wp2_with fail
        go_ret
        exact ⟨rfl, BW.out.trans (b9.mono BW.out.size)⟩
end Go.Proofs.Ytebdldinlodgpaa.Rc
