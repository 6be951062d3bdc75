/-
  Layer 7 (records): the walk of RecordsDivide: the answer is true. Condition: the numbers fit their kinds.
-/
import Derived.Test.YtebdldinlodgpaaPrKa
import Derived.Deep.Cut
import Derived.Deep.CutRange
namespace Go.Proofs.Ytebdldinlodgpaa.Rc
open Go Go.RowKit Go.Lib Go.Sort Go.Shelf Go.Proofs Go.Proofs.Ytebdldinlodgpaa Go.Proofs.Ytebdldinlodgpaa.Tp
set_option linter.unusedVariables false
set_option maxRecDepth 100000 in
set_option maxHeartbeats 8000000 in
theorem divide_walk (t0 : Option Addr) (len cap : Nat) (zs : List Int) (at_ : Int) (ha0 : -9223372036854775808 ≤ at_) (ha1 : at_ ≤ 9223372036854775807) (w : World) (ra : Option Addr) (rn rc : Nat) (rb : List Nat) (hraw : BRow w ra rn rb) (hnone : (ra = none → rn = 0) ∧ (ra = none → rc = 0)) (hr : IsRow w t0 len cap zs) (hlen : len ≤ 9223372036854775807) :
    Calls Try.prog 6 #[.slice t0 len cap, .int .i64 at_, .slice ra rn rc] w (TrueR w) := by
  have T0 := Lib.hid (tape_new hr hlen 73)
  have B0 := Lib.hid (show Below w.heap.size w (w.alloc (.cells #[.slice t0 len cap, .int .i64 0] 73)) from (Below.refl _ _).alloc (Nat.le_refl _) _)
  obtain ⟨i0, hi0, hz0, hz1, hz2⟩ := info1
  have HQ := Lib.hid (And.intro hi0 (And.intro hz0 (And.intro hz1 hz2)))
  have RB := Lib.hid hraw
  have RN := Lib.hid hnone
  clear hr hlen hi0 hz0 hz1 hz2 hraw hnone
  go_enter Try.func6, Try.ntmps6
  go_wp2_with fail
  refine (gnew_any t0 len cap _).mono ?_
  rintro r w0 ⟨rfl, rfl⟩
  go_wp2_with fail
  refine (frames_any w.heap.size 5 (by decide) _ T0.out).mono ?_
  rintro r w1 ⟨v, l, rfl, ll, HI⟩
  have OB := Lib.hid (HI.own rfl B0.out)
  have LB := Lib.hid HI.by_
  have LL : Hid (l.length ≤ 140) := Lib.hid (by omega)
  have RB1 : Hid (BRow w1 ra rn rb) := Lib.hid (RB.out.more (OwnL.below OB.out))
  clear T0 B0 HI ll
  go_upto_if 23 with fail
  go_cut [7] (fun s wx => ∃ A N cap L, s = .slice A N cap ∧ Hid (Byt w A N cap L wx))
  case first =>
    by_cases hrn : rn ≤ 2000
    · have tr : decide ((rn : Int) ≤ 2000) = true := decide_eq_true (by omega)
      have tr2 : decide (rn ≤ 2000) = true := decide_eq_true hrn
      go_wp2_with (at_builtin; refine wpList_append_opt _ rfl _ _ 27 rfl w.heap.size 5 i0 (.int .u8 0) 1 1 Try.underlying27 HQ.out.1 HQ.out.2.1 HQ.out.2.2.1 HQ.out.2.2.2 rfl (by decide) _ _ _ rfl (OwnL.row OB.out) ra rn rc (rb.flatMap eB) rfl (BRow.opt RB1.out).1 (fun e => ⟨RN.out.1 e, RN.out.2 e⟩) (fun ad e => (BRow.opt RB1.out).2 ad e _ (Below.refl _ _)) (fB_one rb) ?m3 ?m4 (OwnL.below OB.out).size ?_)
      case m3 => have := LL.out; unfold maxLen; omega
      case m4 => have := LL.out; omega
      intro v2 w2 hown hgrow _
      have O2 := Lib.hid (OwnL.grown (m := rb) OB.out (by rw [RB.out.1]; exact hown) hgrow)
      clear hown hgrow OB RB1
      obtain ⟨A, N, cap', hv, HB⟩ := Byt.mk' O2.out (by have := LL.out; have := RB.out.1; simp; omega) (LB.out.app RB.out.2.1)
      subst hv
      go_wp2_with fail
      go_meet
      exact ⟨A, N, cap', _, rfl, Lib.hid HB⟩
    · have tr : decide ((rn : Int) ≤ 2000) = false := decide_eq_false (by omega)
      have tr2 : decide (rn ≤ 2000) = false := decide_eq_false hrn
      obtain ⟨A, N, cap', hv, HB⟩ := Byt.mk' OB.out (by have := LL.out; omega) LB.out
      subst hv
      go_wp2_with fail
      go_meet
      exact ⟨A, N, cap', _, rfl, Lib.hid HB⟩
  case rest =>
  obtain ⟨A, N, cap2, L, hs, HB⟩ := hcut
  subst hs
  clear OB LB LL RB1 RB RN v l
  obtain ⟨w2, hw2⟩ : ∃ w2, w2 = wc := ⟨_, rfl⟩
  subst hw2
  have NL := Lib.hid HB.out.len
  have n1 := HB.out.le
  have n2 := HB.out.cap
  have MO := Lib.hid (fun W => mod_any at_ ((N : Int) + 1) ha0 ha1 (by omega) (by omega) W)
  have ML := modT_lo at_ ((N : Int) + 1) (by omega)
  have MH := modT_hi at_ ((N : Int) + 1) (by omega)
  obtain ⟨P, hP⟩ := Int.eq_ofNat_of_zero_le ML
  rw [hP] at MO MH
  have hpN : P ≤ N := by omega
  clear ML MH hP ha0 ha1
  go_wp2_with fail
  refine (MO.out _).mono ?_
  rintro r w3 ⟨rfl, rfl⟩
  have SD := scan_divide L P (by have := NL.out; omega)
  have e1 := dec_scan L
  have e2 := dec_scan (L.take P)
  have e3 := dec_scan (L.drop (dec (L.take P)).2.2)
  rw [← e1.1, ← e1.2, ← e2.1, ← e2.2, ← e3.1, ← e3.2] at SD
  have S1 := Lib.hid SD.1
  have S2 := Lib.hid SD.2
  have RS := scan_rest (L.take P)
  rw [← e2.2, List.length_take, show min P L.length = P by have := NL.out; omega] at RS
  have D1 := dec_len L
  have D2 := dec_len (L.take P)
  have D3 := dec_len (L.drop (dec (L.take P)).2.2)
  rw [List.length_take] at D2
  rw [List.length_drop] at D3
  have DC1 := Lib.hid (decode_any A N cap2 L (by omega) n2 _ (HB.out.row (Below.refl _ _)))
  have RW := Lib.hid (fun W h => HB.out.row (W' := W) h)
  have DC2 := Lib.hid (fun W h => decode_any A P cap2 (L.take P) (by omega) (by omega) W ((RW.out W h).first hpN))
  have DC3 := Lib.hid (fun W h => decode_any (fromA A cap2 (dec (L.take P)).2.2) (N - (dec (L.take P)).2.2) (cap2 - (dec (L.take P)).2.2) (L.drop (dec (L.take P)).2.2) (by omega) (by omega) W ((RW.out W h).rest (by omega) n2))
  have BW := Lib.hid (OwnL.below HB.out.own)
  unfold DcR at DC1 DC2 DC3
  have lN := NL.out
  clear SD e1 e2 e3 HB RW
  generalize (dec L).2.2 = n at *
  generalize hu : (dec (L.take P)).2.2 = u at *
  generalize (dec (L.drop u)).2.2 = q at *
  generalize (dec L).1 = E1 at *
  generalize (dec (L.take P)).1 = E2 at *
  generalize (dec (L.drop u)).1 = E3 at *
  clear hu
  have b1 : n ≤ 2140 := by omega
  have b2 : u ≤ P := RS.1
  have b3 : P - u < 24 := RS.2
  have b4 : q ≤ 2140 := by omega
  have hnq : n = u + q := S2.out
  have LE : Hid (E1.length ≤ 2140 ∧ E2.length ≤ 2140 ∧ E3.length ≤ 2140) := Lib.hid (by omega)
  clear D1 D2 D3 RS NL lN
  have hnq2 := Lib.hid hnq
  clear S2 hnq
  go_wp2_with fail
  refine DC1.out.mono ?_
  rintro r w4 ⟨v1, g1, rfl, I1⟩
  have BB1 := Lib.hid (OwnL.below I1.e)
  have X1 := Lib.hid I1.e
  clear I1 DC1
  have q1 : (P : Int) ≤ (cap2 : Int) := by omega
  go_wp2_with fail
  refine (DC2.out _ BB1.out).mono ?_
  rintro r w5 ⟨v2, g2, rfl, I2⟩
  have BB2 := Lib.hid (OwnL.below I2.e)
  have X2 := Lib.hid I2.e
  clear I2 DC2
  have q2 : decide ((u : Int) < 0) = false := decide_eq_false (by omega)
  have q3 : decide ((P : Int) < (u : Int)) = false := decide_eq_false (by omega)
  have q3' : decide (P < u) = false := decide_eq_false (by omega)
  have q4 : decide ((23 : Int) < (P : Int) - (u : Int)) = false := decide_eq_false (by omega)
  have q5 : (u : Int) ≤ (N : Int) := by omega
  have q6 : (N : Int) ≤ (cap2 : Int) := by omega
  have hif : (if cap2 = u then A else Option.map (fun x => x.add u) A) = fromA A cap2 u := rfl
  go_upto_region 9 with fail
  go_wp2_with fail
  refine (DC3.out _ (BB1.out.trans (BB2.out.mono BB1.out.size))).mono ?_
  rintro r w6 ⟨v3, g3, rfl, I3⟩
  have BB3 := Lib.hid (OwnL.below I3.e)
  have X3 := Lib.hid I3.e
  clear I3 DC3 hif q1 q2 q3 q3' q4 q5 q6
  obtain ⟨A2, c2, hv2, f2, s2⟩ := OwnL.src X2.out
  obtain ⟨A3, c3, hv3, f3, s3⟩ := OwnL.src X3.out
  subst hv2
  subst hv3
  have F2 := Lib.hid f2
  have F3 := Lib.hid f3
  have SR2 := Lib.hid s2
  have SR3 := Lib.hid s3
  clear f2 s2 f3 s3
  obtain ⟨j0, hj0, hy0, hy1, hy2⟩ := infoEv
  have HE := Lib.hid (And.intro hj0 (And.intro hy0 (And.intro hy1 hy2)))
  clear hj0 hy0 hy1 hy2
  have ER1 := Lib.hid (OwnE.erow X1.out)
  have B46 := Lib.hid (BB2.out.trans (BB3.out.mono BB2.out.size))
  have BALL := Lib.hid ((BW.out.trans (BB1.out.mono BW.out.size)).trans (B46.out.mono (by have := BW.out.size; have := BB1.out.size; omega)))
  have O6 := Lib.hid (OwnL.lit0 (enc := eE) w6 26 7)
  have K56 : Hid (Below w5.heap.size w5 (w6.alloc (.cells #[] 26))) := Lib.hid (BB3.out.trans ((OwnL.below O6.out).mono BB3.out.size))
  go_wp2_with (at_builtin; refine wpList_append_opt _ rfl _ _ 44 rfl w6.heap.size 26 j0 (.agg #[.int .i64 0, .int .i64 0, .int .i64 0, .int .i64 0, .int .i64 0, .int .i64 0, .int .i64 0]) 7 56 Try.underlying44 HE.out.1 HE.out.2.1 HE.out.2.2.1 HE.out.2.2.2 rfl (by decide) _ _ _ rfl (OwnL.row O6.out) A2 E2.length c2 (E2.flatMap eE) rfl (eE_len E2) F2.out (fun ad e => (SR2.out ad e).2 _ K56.out) (eE_one E2) ?m3 ?m4 (OwnL.below O6.out).size ?_)
  case m3 => have := LE.out; unfold maxLen; simp; omega
  case m4 => have := LE.out; simp; omega
  intro v7 w7 hown hgrow _
  have O7 : Hid (OwnL 26 7 eE w6 v7 E2 w7) := Lib.hid (OwnL.grown (l := []) (m := E2) O6.out (by simpa using hown) hgrow)
  clear hown hgrow O6 K56
  go_wp2_with (at_builtin; refine wpList_append_opt _ rfl _ _ 44 rfl w6.heap.size 26 j0 (.agg #[.int .i64 0, .int .i64 0, .int .i64 0, .int .i64 0, .int .i64 0, .int .i64 0, .int .i64 0]) 7 56 Try.underlying44 HE.out.1 HE.out.2.1 HE.out.2.2.1 HE.out.2.2.2 rfl (by decide) _ _ _ rfl (OwnL.row O7.out) A3 E3.length c3 (E3.flatMap eE) rfl (eE_len E3) F3.out (fun ad e => (SR3.out ad e).2 _ (OwnL.below O7.out)) (eE_one E3) ?n3 ?n4 (OwnL.below O7.out).size ?_)
  case n3 => have := LE.out; unfold maxLen; omega
  case n4 => have := LE.out; omega
  intro v8 w8 hown hgrow _
  have O8 : Hid (OwnL 26 7 eE w6 v8 E1 w8) := Lib.hid (by rw [S1.out]; exact OwnL.grown (m := E3) O7.out hown hgrow)
  clear hown hgrow O7 F2 F3 SR2 SR3
  have SM := Lib.hid (same_any v1 (.slice none 0 0) v8 (.slice none 0 0) E1 [] (by have := LE.out; omega) (by decide) w8 (ER1.out.more (B46.out.trans ((OwnL.below O8.out).mono B46.out.size))) ⟨none, 0, rfl, fun h => absurd h (by decide)⟩ (OwnE.erow O8.out) ⟨none, 0, rfl, fun h => absurd h (by decide)⟩)
  unfold TrueR at SM
  go_wp2_with fail
  refine SM.out.mono ?_
  rintro r w9 ⟨rfl, b9⟩
  have tn : ((u : Int) + (q : Int) == (n : Int)) = true := by have := hnq2.out; simp; omega
  go_wp2_with fail
  refine (sane_any _).mono ?_
  rintro r w10 ⟨rfl, b10⟩
  go_wp2_with fail
  go_ret
  have z1 := BALL.out.size
  have z2 := (OwnL.below O8.out).size
  exact ⟨rfl, ((BALL.out.trans ((OwnL.below O8.out).mono z1)).trans (b9.mono (by omega))).trans (b10.mono (by have := b9.size; omega))⟩
end Go.Proofs.Ytebdldinlodgpaa.Rc
