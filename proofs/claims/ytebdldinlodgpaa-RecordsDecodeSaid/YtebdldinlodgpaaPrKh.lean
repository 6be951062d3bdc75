/-
  Layer 7 (records): the walk of RecordsDecode: the answer is true. Condition: the numbers fit their kinds.
-/
import Derived.Test.YtebdldinlodgpaaPrKg
import Derived.Test.YtebdldinlodgpaaPrKa
namespace Go.Proofs.Ytebdldinlodgpaa.Rc
open Go Go.RowKit Go.Lib Go.Sort Go.Shelf Go.Proofs Go.Proofs.Ytebdldinlodgpaa Go.Proofs.Ytebdldinlodgpaa.Tp
set_option linter.unusedVariables false

set_option maxRecDepth 100000 in
set_option maxHeartbeats 2000000 in
theorem decodes_any (a : Option Addr) (n cap : Nat) (bs : List Nat) (hn : n ≤ 1000000) (hcap : n ≤ cap) (w : World) (h : BRow w a n bs) :
    Calls Try.prog 24 #[.slice a n cap] w (TrueR w) := by
  have D1 := Lib.hid (decode_any a n cap bs hn hcap w h)
  have D2 := Lib.hid (fun W hb => rdecode_any a n cap bs hn hcap W (h.more hb))
  have l1 := (dec_len bs).1
  have l2 := acc_len bs
  have hl := h.1
  unfold DcR at D1 D2
  have LE : Hid ((dec bs).1.length ≤ 1000000 ∧ (dec bs).2.1.length ≤ 1000000) := Lib.hid (by omega)
  clear l1 l2 hl h hn hcap
  generalize (dec bs).1 = E at *
  generalize (dec bs).2.1 = G at *
  generalize (dec bs).2.2 = n at *
  go_enter Try.func24, Try.ntmps24
  go_wp2_with fail
  refine D1.out.mono ?_
  rintro r w1 ⟨v1, g1, rfl, I1⟩
  have B1 := Lib.hid (OwnL.below I1.e)
  have X1 := Lib.hid (OwnE.erow I1.e)
  have Y1 := Lib.hid (OwnG.grow I1.g)
  clear I1 D1
  go_wp2_with fail
  refine (D2.out _ B1.out).mono ?_
  rintro r w2 ⟨v2, g2, rfl, I2⟩
  have SM := Lib.hid (same_any v1 g1 v2 g2 E G LE.out.1 LE.out.2 w2 (X1.out.more (OwnL.below I2.e)) (Y1.out.more (OwnL.below I2.e)) (OwnE.erow I2.e) (OwnG.grow I2.g))
  have B2 := Lib.hid (B1.out.trans ((OwnL.below I2.e).mono B1.out.size))
  unfold TrueR at SM
  clear I2 D2 X1 Y1
  go_wp2_with fail
  refine SM.out.mono ?_
  rintro r w3 ⟨rfl, b3⟩
  go_wp2_with fail
  go_ret
  exact ⟨rfl, B2.out.trans (b3.mono B2.out.size)⟩
/-- The slice of bytes while they are made. -/
theorem FrI.slice {w W : World} {b : Nat} {v : Value} {l : List Nat} (h : FrI w b v l W) : ∃ A cap, v = .slice A l.length cap ∧ l.length ≤ cap ∧ BRow W A l.length l := by
  rcases h.row.2 with ⟨e, h0⟩ | ⟨g, cap, cur, e, h1, h2, h3, h4, _⟩
  · obtain rfl := List.length_eq_zero_iff.1 h0
    exact ⟨none, 0, e, Nat.le_refl _, rfl, h.by_, fun h => absurd h (by decide)⟩
  · refine ⟨_, cap, e, h3, rfl, h.by_, fun hn => ⟨_, rfl, fun i hi => ?_⟩⟩
    subst e
    exact h.row.cells (g := g) rfl i _ (fB_get l i hi)
set_option maxRecDepth 100000 in
set_option maxHeartbeats 8000000 in
theorem decode_walk (t0 : Option Addr) (len cap : Nat) (zs : List Int) (ra : Option Addr) (rn rc : Nat) (rb : List Nat) (w : World) (hraw : BRow w ra rn rb) (hrc : rn ≤ rc) (hr : IsRow w t0 len cap zs) (hlen : len ≤ 9223372036854775807) :
    Calls Try.prog 4 #[.slice t0 len cap, .slice ra rn rc] w (TrueR w) := by
  have T0 := Lib.hid (tape_new hr hlen 73)
  have B0 := Lib.hid (show Below w.heap.size w (w.alloc (.cells #[.slice t0 len cap, .int .i64 0] 73)) from (Below.refl _ _).alloc (Nat.le_refl _) _)
  obtain ⟨i0, hi0, hz0, hz1, hz2⟩ := info1
  have HQ := Lib.hid (And.intro hi0 (And.intro hz0 (And.intro hz1 hz2)))
  have RB := Lib.hid hraw
  clear hr hlen hi0 hz0 hz1 hz2 hraw
  go_enter Try.func4, Try.ntmps4
  go_wp2_with fail
  refine (gnew_any t0 len cap _).mono ?_
  rintro r w0 ⟨rfl, rfl⟩
  go_wp2_with fail
  generalize w.alloc (.cells #[.slice t0 len cap, .int .i64 0] 73) = w1 at *
  generalize hb : w.heap.size = b at *
  have HBB := Lib.hid hb
  clear hb
  go_loopw [6] (fun z wr => ∃ k : Nat, k ≤ 3 ∧ z = .int .i64 k ∧ Hid (TapeAt b wr) ∧ Hid (Only b w1 wr)) (fun z _ => (3 - intOf z).toNat)
  case atStart => exact ⟨0, by omega, rfl, T0, Lib.hid (Only.refl _ _)⟩
  case round =>
    clear T0
    obtain ⟨k, hk, rfl, HT, HO⟩ := hrel
    by_cases hlt : k < 3
    · have i1 : decide ((k : Int) < 3) = true := decide_eq_true (by omega)
      go_wp2_with fail
      refine (frames_any b 4 (by decide) _ HT.out).mono ?_
      rintro r w2 ⟨v, l, rfl, ll, HI⟩
      obtain ⟨A, c, hv, hc, hrow⟩ := HI.slice
      subst hv
      have DS := Lib.hid (decodes_any A l.length c l (by omega) hc w2 hrow)
      have HT2 := Lib.hid HI.tape
      have HO2 := Lib.hid (HO.out.trans HI.only)
      unfold TrueR at DS
      clear HI hrow HT HO ll hc
      go_wp2_with fail
      refine DS.out.mono ?_
      rintro r w3 ⟨rfl, b3⟩
      go_wp2_with fail
      go_roundw
      case rel => exact ⟨k + 1, by omega, by go_num, Lib.hid (HT2.out.below b3), Lib.hid (HO2.out.trans (Only.of_below b3))⟩
      case measure => simp [intOf]; omega
    · obtain rfl : k = 3 := by omega
      have i1 : decide (((3 : Nat) : Int) < 3) = false := by decide
      have EC : Hid (∀ W, Calls Try.prog 18 #[.agg #[.int .i64 3, .int .i64 9, .int .i64 7, .int .i64 29453760, .int .i64 1, .int .i64 0, .int .i64 0]] W (EncR e0 W)) := Lib.hid (fun W => renc_ok e0 e0_ok W)
      have FE := Lib.hid (frame_len e0)
      have FB := Lib.hid (frame_by e0_ok)
      unfold EncR at EC
      generalize frame e0 = F at *
      go_wp2_with fail
      refine (some_any _).mono ?_
      rintro r w2 ⟨rfl, b2⟩
      have HT2 := Lib.hid (HT.out.below b2)
      have HO2 := Lib.hid (HO.out.trans (Only.of_below b2))
      clear HT HO b2
      go_wp2_with fail
      refine (EC.out _).mono ?_
      rintro r w3 ⟨a3, c3, rfl, h3⟩
      have R3 := Lib.hid (OwnB.brow h3 FB.out).1
      obtain ⟨x, hx, _⟩ := R3.out.2.2 (by decide)
      subst hx
      have HT3 := Lib.hid (HT2.out.below (OwnL.below h3))
      have HO3 := Lib.hid (HO2.out.trans (Only.of_below (OwnL.below h3)))
      clear h3 HT2 HO2 EC
      have I4 : Hid (FrI w3 b (.slice (some ⟨w3.heap.size, 0, none⟩) 0 0) [] (w3.alloc (.cells #[] 5))) := Lib.hid ⟨HT3.out.alloc _, Only.alloc (Only.refl _ _) _, (OwnL.lit0 (enc := eB) w3 5 1).row, HT3.out.lt, fun x hx => absurd hx List.not_mem_nil⟩
      have NW := Lib.hid (BRow.news (R3.out.more ((Below.refl _ _).alloc (Nat.le_refl _) (.cells #[] 5))))
      have NL : Hid ((F.flatMap eB).length = 24 * 1) := Lib.hid (by rw [fB_len, FE.out])
      go_wp2_with (at_builtin; refine wpList_append_own _ rfl _ _ 27 rfl w3.heap.size 5 i0 (.int .u8 0) 1 1 Try.underlying27 HQ.out.1 HQ.out.2.1 HQ.out.2.2.1 HQ.out.2.2.2 rfl (by decide) _ _ _ rfl I4.out.row x 24 c3 (F.flatMap eB) rfl NL.out NW.out (fB_one F) ?m3 ?m4 I4.out.size ?_)
      case m3 => decide
      case m4 => decide
      intro v5 w5 hown hgrow _
      have I5 : Hid (FrI w3 b v5 F w5) := Lib.hid (FrI.grown (l := []) (m := F) I4.out FB.out (by rw [FE.out]; exact hown) hgrow)
      clear hown hgrow I4 NW NL R3
      obtain ⟨A, c5, hv, hc5, hrow⟩ := I5.out.slice
      rw [FE.out] at hv hc5 hrow
      obtain ⟨x, hx, _⟩ := hrow.2.2 (by decide)
      have hg : ∃ g, A = some ⟨g, 0, none⟩ := by
        rcases I5.out.row.2 with ⟨e, h0⟩ | ⟨g, cap, cur, e, _⟩
        · rw [hv] at e; injection e with _ e; exact absurd e (by decide)
        · rw [hv] at e; injection e with e; exact ⟨g, e⟩
      obtain ⟨g, hg⟩ := hg
      subst hg
      subst hv
      clear hrow hx
      go_wp2_with fail
      refine (next_any b 22 (by omega) (by omega) _ I5.out.tape).mono ?_
      rintro r w6 ⟨z, rfl, z0, z1, T6, O6⟩
      obtain ⟨j, rfl⟩ := Int.eq_ofNat_of_zero_le z0
      have I6 := Lib.hid (I5.out.step T6 O6)
      clear T6 O6 I5 z0
      go_wp2_with fail
      refine (next_any b 256 (by omega) (by omega) _ I6.out.tape).mono ?_
      rintro r w7 ⟨z, rfl, z0, zz1, T7, O7⟩
      obtain ⟨c, rfl⟩ := Int.eq_ofNat_of_zero_le z0
      have I7 := Lib.hid (I6.out.step T7 O7)
      have hj : j < 22 := by omega
      have hc : c < 256 := by omega
      have q1 : (j : Int) < 24 := by omega
      clear T7 O7 I6 z0
      obtain ⟨cj, fj⟩ := I7.out.cell FE.out.symm (p := j) (by rw [FE.out]; omega)
      have wc : IntKind.u8.wrap (c : Int) = (c : Int) := by rw [IntKind.wrap_u8]; omega
      have I8 := Lib.hid (I7.out.put FE.out.symm j c hc)
      have L8 : Hid ((F.set j c).length = 24) := Lib.hid (by rw [List.length_set, FE.out])
      generalize F[j]! = fjv at *
      generalize F.set j c = F8 at *
      go_upto_region 10 with fail
      generalize w7.setCell ⟨g, j, none⟩ (.int .u8 (c : Int)) = w8 at *
      have R8 : Hid (BRow w8 (some ⟨g, 0, none⟩) 24 F8) := Lib.hid (by
        obtain ⟨A', c', e, _, h⟩ := I8.out.slice
        rw [L8.out] at e h
        injection e with e
        rw [e]; exact h)
      have SU := Lib.hid (rsum_any (some ⟨g, 0, none⟩) 22 c5 (F8.take 22) (by decide) w8 (R8.out.first (by decide)))
      have SL := Lib.hid (crc_lt (l := F8.take 22) fun x hx => R8.out.2.1 x (List.mem_of_mem_take hx))
      generalize crc (F8.take 22) = S at *
      have q2 : (22 : Int) ≤ (c5 : Int) := by omega
      clear cj fj I7 wc q1
      go_wp2_with fail
      refine SU.out.mono ?_
      rintro r w9 ⟨rfl, rfl⟩
      obtain ⟨c22, f22⟩ := I8.out.cell L8.out.symm (p := 22) (by rw [L8.out]; decide)
      have SLT := SL.out
      have I9 := Lib.hid (I8.out.put L8.out.symm 22 (S / 256) (by omega))
      have L9 : Hid ((F8.set 22 (S / 256)).length = 24) := Lib.hid (by rw [List.length_set, L8.out])
      obtain ⟨c23, f23⟩ := I9.out.cell L9.out.symm (p := 23) (by rw [L9.out]; decide)
      have I10 := Lib.hid (I9.out.put L9.out.symm 23 (S % 256) (by omega))
      have L10 : Hid (((F8.set 22 (S / 256)).set 23 (S % 256)).length = 24) := Lib.hid (by rw [List.length_set, L9.out])
      generalize F8[22]! = y22 at *
      generalize (F8.set 22 (S / 256))[23]! = y23 at *
      have e1 : ((S / 256 : Nat) : Int) = (S : Int) / 256 := by omega
      have e2 : ((S % 256 : Nat) : Int) = (S : Int) % 256 := by omega
      rw [e1] at I9 I10 c23 f23
      rw [e2] at I10
      have LB : Hid (((F8.set 22 (S / 256)).set 23 (S % 256)).length = 24) := L10
      clear e1 e2 L9 L10 I8 I9 R8 SU
      generalize (F8.set 22 (S / 256)).set 23 (S % 256) = X at *
      go_upto_region 12 with fail
      generalize (w9.setCell ⟨g, 22, none⟩ (.int .u8 ((S : Int) / 256))).setCell ⟨g, 23, none⟩ (.int .u8 ((S : Int) % 256)) = w10 at *
      have R10 : Hid (BRow w10 (some ⟨g, 0, none⟩) 24 X) := Lib.hid (by
        obtain ⟨A', c', e, _, h⟩ := I10.out.slice
        rw [LB.out] at e h
        injection e with e
        rw [e]; exact h)
      have BW : Hid (Below w.heap.size w w10) := Lib.hid (by
        have hbb := HBB.out
        have h1 : b ≤ w1.heap.size := by rw [← hbb]; exact B0.out.size
        rw [hbb]
        exact B0.out.trans ((HO3.out.trans I10.out.only).below (Nat.le_refl _) h1))
      have DX := Lib.hid (decodes_any (some ⟨g, 0, none⟩) 24 c5 X (by decide) hc5 w10 R10.out)
      unfold TrueR at DX
      clear I10 R10 c22 f22 c23 f23 HO3 HT3 B0
      by_cases h3 : rn ≤ 3000
      · have t0 : decide ((3000 : Int) < (rn : Int)) = false := decide_eq_false (by omega)
        have t1 : decide (3000 < rn) = false := decide_eq_false (by omega)
        go_wp2_with fail
        refine DX.out.mono ?_
        rintro r w11 ⟨rfl, b11⟩
        have B11 := Lib.hid (BW.out.trans (b11.mono BW.out.size))
        clear b11 DX
        go_wp2_with fail
        refine (decodes_any ra rn rc rb (by omega) hrc _ (RB.out.more B11.out)).mono ?_
        rintro r w12 ⟨rfl, b12⟩
        go_wp2_with fail
        refine (sane_any _).mono ?_
        rintro r w13 ⟨rfl, b13⟩
        go_wp2_with fail
        go_ret
        exact ⟨rfl, (B11.out.trans (b12.mono B11.out.size)).trans (b13.mono (by have := B11.out.size; have := b12.size; omega))⟩
      · have t0 : decide ((3000 : Int) < (rn : Int)) = true := decide_eq_true (by omega)
        have t1 : decide (3000 < rn) = true := decide_eq_true (by omega)
        go_wp2_with fail
        go_ret
        exact ⟨rfl, BW.out⟩
end Go.Proofs.Ytebdldinlodgpaa.Rc
