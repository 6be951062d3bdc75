/-
  Layer 7 (records): the walk of RecordsDamage: the answer is true. Condition: the numbers fit their kinds.
-/
import Derived.Test.YtebdldinlodgpaaPrJk
import Derived.Test.YtebdldinlodgpaaPrJr
import Derived.Test.YtebdldinlodgpaaPrJw
import Derived.Deep.Cut
import Derived.Test.YtebdldinlodgpaaPrQb
import Derived.Test.YtebdldinlodgpaaPrJu
namespace Go.Proofs.Ytebdldinlodgpaa.Rc
open Go Go.RowKit Go.Lib Go.Sort Go.Shelf Go.Proofs Go.Proofs.Ytebdldinlodgpaa Go.Proofs.Ytebdldinlodgpaa.Tp
set_option linter.unusedVariables false

/-- What decoding the damaged frame and the frame behind it gives. -/
theorem dec_two {e : Ev} (h : okE e = true) {p v : Nat} (hp : p < 24) (hv : v < 256) (hne : (frame e)[p]! ≠ v) :
    ∃ m ms, (dec ((frame e).set p v ++ frame e)).1 = m :: ms ∧ 1 ≤ (dec ((frame e).set p v ++ frame e)).2.2 ∧ (ms ≠ [] ∨ (m = e ∧ (dec ((frame e).set p v ++ frame e)).2.2 = 48) ∨ m ≠ e) := by
  have hl : ((frame e).set p v ++ frame e).length = 48 := by rw [List.length_append, List.length_set, frame_len]
  have h2 := (dec_scan ((frame e).set p v ++ frame e)).2
  have h3 := scan_rest ((frame e).set p v ++ frame e)
  rw [hl] at h3
  obtain ⟨m, ms, h4, h5⟩ := damage_go h hp hv hne 0 49 [] (by omega) (by omega)
  have hd : dec ((frame e).set p v ++ frame e) = go ((frame e).set p v ++ frame e) 49 0 [] [] := by unfold dec; rw [hl]
  rw [hd] at h2 ⊢
  exact ⟨m, ms, h4, by omega, h5⟩
theorem head_e {W : World} {v : Value} {m : Ev} {ms : List Ev} (h : ERow W v (m :: ms)) : ∃ g C, v = .slice (some ⟨g, 0, none⟩) (ms.length + 1) C ∧ At7 W g 0 m := by
  obtain ⟨A, C, hv, h⟩ := h
  obtain ⟨g, hg, hc⟩ := h (by simp)
  subst hg
  exact ⟨g, C, hv, hc 0 (by simp)⟩
theorem At7.six {W : World} {g : Nat} {e : Ev} (h : At7 W g 0 e) : W.cell? ⟨g, 0, none⟩ = some (.int .i64 e.kt) ∧ W.cell? ⟨g, 1, none⟩ = some (.int .i64 e.ks) ∧ W.cell? ⟨g, 2, none⟩ = some (.int .i64 e.em) ∧ W.cell? ⟨g, 3, none⟩ = some (.int .i64 e.ti) ∧ W.cell? ⟨g, 4, none⟩ = some (.int .i64 e.ki) ∧ W.cell? ⟨g, 5, none⟩ = some (.int .i64 e.tt) ∧ W.cell? ⟨g, 6, none⟩ = some (.int .i64 e.ts) := h

set_option maxRecDepth 100000 in
set_option maxHeartbeats 8000000 in
theorem damage_walk (t0 : Option Addr) (len cap : Nat) (zs : List Int) (at_ : Int) (ha0 : -9223372036854775808 ≤ at_) (ha1 : at_ ≤ 9223372036854775807) (by_ : Nat) (hby : by_ < 256) (w : World) (hr : IsRow w t0 len cap zs) (hlen : len ≤ 9223372036854775807) :
    Calls Try.prog 7 #[.slice t0 len cap, .int .i64 at_, .int .u8 by_] w (TrueR w) := by
  have T0 := Lib.hid (tape_new hr hlen 73)
  have B0 := Lib.hid (show Below w.heap.size w (w.alloc (.cells #[.slice t0 len cap, .int .i64 0] 73)) from (Below.refl _ _).alloc (Nat.le_refl _) _)
  obtain ⟨i0, hi0, hz0, hz1, hz2⟩ := info1
  have HQ := Lib.hid (And.intro hi0 (And.intro hz0 (And.intro hz1 hz2)))
  have MO := Lib.hid (fun W => mod_any at_ 24 ha0 ha1 (by omega) (by omega) W)
  have ML := modT_lo at_ 24 (by omega)
  have MH := modT_hi at_ 24 (by omega)
  obtain ⟨P, hP⟩ := Int.eq_ofNat_of_zero_le ML
  rw [hP] at MO MH
  have hp24 : P < 24 := by omega
  clear hr hlen hi0 hz0 hz1 hz2 ML MH hP ha0 ha1
  go_enter Try.func7, Try.ntmps7
  go_wp2_with fail
  refine (gnew_any t0 len cap _).mono ?_
  rintro r w0 ⟨rfl, rfl⟩
  go_wp2_with fail
  refine (gevent_any w.heap.size _ T0.out).mono ?_
  rintro r w1 ⟨e, rfl, oke, T1, O1⟩
  have B1 := Lib.hid (B0.out.trans (O1.below (Nat.le_refl _) B0.out.size))
  clear T0 B0 T1 O1
  have EC : Hid (∀ W, Calls Try.prog 17 #[vE e] W fun r W' => ∃ a cap, r = .returned (.tuple #[.slice a 24 cap, .int .i64 0]) ∧ OwnB W (.slice a 24 cap) (frame e) W') := Lib.hid (fun W => enc_ok e oke W)
  have FE := Lib.hid (frame_len e)
  have FB := Lib.hid (frame_by oke)
  have XP := (frame_by oke) (frame e)[P]! (by rw [getElem!_pos (frame e) P (by rw [frame_len]; exact hp24)]; exact List.getElem_mem _)
  obtain ⟨V, hV1, hV2, hV3⟩ := flip_byte (frame e)[P]! by_ XP hby
  have D1 := Lib.hid (dec_damaged oke hp24 hV2 hV3)
  have D2 := Lib.hid (dec_two oke hp24 hV2 hV3)
  have YB := Lib.hid (set_out (l := frame e) (p := P) hV2 (frame_by oke))
  clear oke
  generalize hFe : frame e = F at *
  have HF := Lib.hid hFe
  clear hFe
  have X1 := Lib.hid (BxE.new w1 e 26)
  obtain ⟨kt, ks, em, ti, ki, tt, ts⟩ := e
  unfold vE at EC ⊢
  simp only at EC X1 ⊢
  go_upto_region 3 with fail
  have Bb := Lib.hid (below_al (Below.refl w1.heap.size w1) (.cells #[.int .i64 kt, .int .i64 ks, .int .i64 em, .int .i64 ti, .int .i64 ki, .int .i64 tt, .int .i64 ts] 26))
  generalize w1.alloc (.cells #[.int .i64 kt, .int .i64 ks, .int .i64 em, .int .i64 ti, .int .i64 ki, .int .i64 tt, .int .i64 ts] 26) = wb at *
  obtain ⟨x0, x1, x2, x3, x4, x5, x6⟩ := X1.out.at7
  simp only at x0 x1 x2 x3 x4 x5 x6
  go_wp2_with fail
  refine (EC.out _).mono ?_
  rintro r w3 ⟨a3, c3, rfl, h3⟩
  have R3 := Lib.hid (OwnB.brow h3 FB.out).1
  obtain ⟨x, hx, _⟩ := R3.out.2.2 (by decide)
  subst hx
  have B3 := Lib.hid (OwnL.below h3)
  clear h3 EC x0 x1 x2 x3 x4 x5 x6
  go_upto_region 6 with fail
  have O4 : Hid (OwnB w3 (.slice (some ⟨w3.heap.size, 0, none⟩) 0 0) [] (w3.alloc (.cells #[] 5))) := Lib.hid (OwnB.lit0 w3)
  have R4 := Lib.hid (R3.out.more (OwnL.below O4.out))
  have NW := Lib.hid (BRow.news R4.out)
  have NL : Hid ((F.flatMap eB).length = 24 * 1) := Lib.hid (by rw [fB_len, FE.out])
  go_wp2_with (at_builtin; refine wpList_append_own _ rfl _ _ 27 rfl w3.heap.size 5 i0 (.int .u8 0) 1 1 Try.underlying27 HQ.out.1 HQ.out.2.1 HQ.out.2.2.1 HQ.out.2.2.2 rfl (by decide) _ _ _ rfl (OwnL.row O4.out) x 24 c3 (F.flatMap eB) rfl NL.out NW.out (fB_one F) ?m3 ?m4 (OwnL.below O4.out).size ?_)
  case m3 => decide
  case m4 => decide
  intro v5 w5 hown hgrow _
  have O5 : Hid (OwnB w3 v5 F w5) := Lib.hid (OwnL.grown (l := []) (m := F) O4.out (by rw [FE.out]; exact hown) hgrow)
  clear hown hgrow O4 R4 NW
  have FM : ∃ g c, v5 = .slice (some ⟨g, 0, none⟩) 24 c ∧ 24 ≤ c := by
    rcases OwnL.form O5.out with ⟨_, hn⟩ | ⟨g, c, e, _, _, h3, _⟩
    · have := FE.out; rw [hn] at this; simp at this
    · rw [FE.out] at e h3; exact ⟨g, c, e, h3⟩
  obtain ⟨g, c5, hv, hc5⟩ := FM
  subst hv
  have cP : w5.cell? ⟨g, P, none⟩ = some (.int .u8 (F[P]! : Nat)) := by
    have := (OwnL.row O5.out).cells (g := g) rfl P _ (fB_get F P (by rw [FE.out]; exact hp24))
    rwa [Addr.add_lit, Nat.zero_add] at this
  obtain ⟨O6', fP⟩ := OwnB.put O5.out FE.out.symm P V
  have O6 := Lib.hid O6'
  clear O6' O5
  generalize F[P]! = xp at *
  have q1 : (P : Int) < 24 := by omega
  go_wp2_with fail
  refine (MO.out _).mono ?_
  rintro r w6 ⟨rfl, rfl⟩
  have DC1 := Lib.hid (decode_any (some ⟨g, 0, none⟩) 24 c5 (F.set P V) (by decide) hc5 _ (OwnB.brow O6.out YB.out).1)
  unfold DcR at DC1
  rw [D1.out] at DC1
  simp only at DC1
  have R6 := Lib.hid ((R3.out).more (OwnL.below O6.out))
  go_wp2_with fail
  refine DC1.out.mono ?_
  rintro r w7 ⟨ev1, gv1, rfl, I7⟩
  have B7 := Lib.hid (OwnL.below I7.e)
  have O7 := Lib.hid (OwnL.more O6.out (OwnL.below I7.e))
  have R7 := Lib.hid (R6.out.more (OwnL.below I7.e))
  have E7 : ∃ A C, ev1 = .slice A 0 C := by
    obtain ⟨A, C, h, _⟩ := OwnE.erow I7.e
    exact ⟨A, C, h⟩
  obtain ⟨A1, C1, hv⟩ := E7
  subst hv
  clear I7 DC1 R6 O6 cP fP
  go_upto_region 9 with fail
  have O8 : Hid (OwnB w7 (.slice (some ⟨w7.heap.size, 0, none⟩) 0 0) [] (w7.alloc (.cells #[] 5))) := Lib.hid (OwnB.lit0 w7)
  have YR8 := Lib.hid ((OwnB.brow O7.out YB.out).1.more (OwnL.below O8.out))
  have XR8 := Lib.hid (R7.out.more (OwnL.below O8.out))
  have NY := Lib.hid (BRow.news YR8.out)
  have NYL : Hid (((F.set P V).flatMap eB).length = 24 * 1) := Lib.hid (by rw [fB_len, List.length_set, FE.out])
  go_wp2_with (at_builtin; refine wpList_append_own _ rfl _ _ 27 rfl w7.heap.size 5 i0 (.int .u8 0) 1 1 Try.underlying27 HQ.out.1 HQ.out.2.1 HQ.out.2.2.1 HQ.out.2.2.2 rfl (by decide) _ _ _ rfl (OwnL.row O8.out) ⟨g, 0, none⟩ 24 c5 ((F.set P V).flatMap eB) rfl NYL.out NY.out (fB_one _) ?n3 ?n4 (OwnL.below O8.out).size ?_)
  case n3 => decide
  case n4 => decide
  intro v8 w8 hown hgrow _
  have O8b : Hid (OwnB w7 v8 (F.set P V) w8) := Lib.hid (OwnL.grown (l := []) (m := F.set P V) O8.out (by rw [List.length_set, FE.out]; exact hown) hgrow)
  have XR8b := Lib.hid (R7.out.more (OwnL.below O8b.out))
  have NX := Lib.hid (BRow.news XR8b.out)
  have YL : Hid ((F.set P V).length = 24) := Lib.hid (by rw [List.length_set, FE.out])
  clear hown hgrow O8 YR8 XR8 NY NYL
  go_wp2_with (at_builtin; refine wpList_append_own _ rfl _ _ 27 rfl w7.heap.size 5 i0 (.int .u8 0) 1 1 Try.underlying27 HQ.out.1 HQ.out.2.1 HQ.out.2.2.1 HQ.out.2.2.2 rfl (by decide) _ _ _ rfl (OwnL.row O8b.out) x 24 c3 (F.flatMap eB) rfl NL.out NX.out (fB_one _) ?o3 ?o4 (OwnL.below O8b.out).size ?_)
  case o3 => rw [YL.out]; decide
  case o4 => rw [YL.out]; decide
  intro v8c w8c hown hgrow _
  have O9 : Hid (OwnB w7 v8c (F.set P V ++ F) w8c) := Lib.hid (OwnL.grown (m := F) O8b.out (by have h := hown; simp only [List.length_set, FE.out] at h ⊢; exact h) hgrow)
  have B8 := Lib.hid (OwnL.below O9.out)
  obtain ⟨A9, C9, hv, hc9, R9⟩ := OwnB.slc O9.out (By.app YB.out FB.out)
  rw [show (F.set P V ++ F).length = 48 by rw [List.length_append, YL.out, FE.out]] at hv hc9 R9
  subst hv
  have DC2 := Lib.hid (decode_any A9 48 C9 (F.set P V ++ F) (by decide) hc9 _ R9)
  unfold DcR at DC2
  obtain ⟨mm, ms, hm1, hm2, hm3⟩ := D2.out
  have HM := Lib.hid hm1
  have HM3 := Lib.hid hm3
  generalize dec (F.set P V ++ F) = DD at *
  obtain ⟨d1, d2, d3⟩ := DD
  simp only at hm1 hm2 hm3 HM HM3 DC2
  subst hm1
  clear hown hgrow O8b XR8b NX R9 HM hm3
  go_wp2_with fail
  refine DC2.out.mono ?_
  rintro r w9 ⟨ev2, gv2, rfl, I9⟩
  obtain ⟨g9, C9b, hv, hat⟩ := head_e (OwnE.erow I9.e)
  subst hv
  have AT := Lib.hid hat
  have Bb9 := Lib.hid ((B3.out.trans ((OwnL.below O7.out).mono B3.out.size |>.trans (B8.out.mono (by have := (OwnL.below O7.out).size; have := B3.out.size; omega)))).trans ((OwnL.below I9.e).mono (by have := (OwnL.below O7.out).size; have := B3.out.size; have := B8.out.size; omega)))
  have XB9 := Lib.hid (X1.out.keep (Bb9.out.block _ X1.out.lt))
  have BT := Lib.hid ((B1.out.trans (Bb.out.mono B1.out.size)).trans (Bb9.out.mono (by have := B1.out.size; have := Bb.out.size; omega)))
  clear I9 DC2 hat B7 B8 B3 R3 R7 O7 O9 B1 X1 D1 D2 YB FB
  obtain ⟨n0, n1, n2, n3, n4, n5, n6⟩ := mm
  have CF : Hid (∀ W, Below w9.heap.size w9 W → W.cell? ⟨g9, 0, none⟩ = some (.int .i64 n0) ∧ W.cell? ⟨g9, 1, none⟩ = some (.int .i64 n1) ∧ W.cell? ⟨g9, 2, none⟩ = some (.int .i64 n2) ∧ W.cell? ⟨g9, 3, none⟩ = some (.int .i64 n3) ∧ W.cell? ⟨g9, 4, none⟩ = some (.int .i64 n4) ∧ W.cell? ⟨g9, 5, none⟩ = some (.int .i64 n5) ∧ W.cell? ⟨g9, 6, none⟩ = some (.int .i64 n6) ∧ W.cell? ⟨w1.heap.size, 0, none⟩ = some (.int .i64 kt) ∧ W.cell? ⟨w1.heap.size, 1, none⟩ = some (.int .i64 ks) ∧ W.cell? ⟨w1.heap.size, 2, none⟩ = some (.int .i64 em) ∧ W.cell? ⟨w1.heap.size, 3, none⟩ = some (.int .i64 ti) ∧ W.cell? ⟨w1.heap.size, 4, none⟩ = some (.int .i64 ki) ∧ W.cell? ⟨w1.heap.size, 5, none⟩ = some (.int .i64 tt) ∧ W.cell? ⟨w1.heap.size, 6, none⟩ = some (.int .i64 ts)) := Lib.hid fun W hb => by
    obtain ⟨a0, a1, a2, a3, a4, a5, a6⟩ := AT.out.keep (hb.block g9 AT.out.lt)
    obtain ⟨⟨e0, e1, e2, e3, e4, e5, e6⟩, _⟩ := XB9.out.keep (hb.block _ XB9.out.lt)
    exact ⟨a0, a1, a2, a3, a4, a5, a6, e0, e1, e2, e3, e4, e5, e6⟩
  have SA : Hid (∀ W, Below w9.heap.size w9 W → Calls Try.prog 23 #[] W fun r W' => r = .returned (.bool true) ∧ Below w9.heap.size w9 W') := Lib.hid fun W hb => (sane_any W).mono fun _ _ h => ⟨h.1, hb.trans (h.2.mono hb.size)⟩
  clear AT XB9
  have td : decide ((d3 : Int) < 1) = false := decide_eq_false (by omega)
  have tl : decide ((0 : Int) < (ms.length : Int) + 1) = true := decide_eq_true (by omega)
  have tl2 : decide (0 < ms.length + 1) = true := decide_eq_true (by omega)
  have K0 : Hid (Below w9.heap.size w9 w9.drew) := Lib.hid (Below.drew (Below.refl _ _))
  go_upto_region 12 with fail
  have FIN : Hid (∀ W, Below w9.heap.size w9 W → Below w.heap.size w W) := Lib.hid fun W hb => BT.out.trans (hb.mono BT.out.size)
  clear BT Bb9 hm2 td
  go_cut [6] (fun s wx => s = .bool true ∧ Hid (Below w9.heap.size w9 wx))
  case first =>
    have QE := fun W => eql_ev ⟨n0, n1, n2, n3, n4, n5, n6⟩ ⟨kt, ks, em, ti, ki, tt, ts⟩ W
    have QN := fun W => neq_ev ⟨n0, n1, n2, n3, n4, n5, n6⟩ ⟨kt, ks, em, ti, ki, tt, ts⟩ W
    have GE := fun op a b W => run_eqGuard_agg (P := Try.prog) W op 26 a b #[.int .i64 n0, .int .i64 n1, .int .i64 n2, .int .i64 n3, .int .i64 n4, .int .i64 n5, .int .i64 n6] #[.int .i64 kt, .int .i64 ks, .int .i64 em, .int .i64 ti, .int .i64 ki, .int .i64 tt, .int .i64 ts] grd_ev
    simp only at QE QN
    have mixed : Try.prog.follows Departure.mixedOrders = true := by kernel_rfl
    have SB : Hid (∀ p : BelowBy w9, Calls Try.prog 23 #[] p.W fun r W' => r = .returned (.bool true) ∧ ∃ p2 : BelowBy w9, W' = p2.W) := Lib.hid fun p => (SA.out p.W p.h).mono fun _ W' h => ⟨h.1, ⟨W', h.2⟩, rfl⟩
    have c0 := fun p : BelowBy w9 => (CF.out p.W p.h).1
    have c1 := fun p : BelowBy w9 => (CF.out p.W p.h).2.1
    have c2 := fun p : BelowBy w9 => (CF.out p.W p.h).2.2.1
    have c3' := fun p : BelowBy w9 => (CF.out p.W p.h).2.2.2.1
    have c4 := fun p : BelowBy w9 => (CF.out p.W p.h).2.2.2.2.1
    have c5' := fun p : BelowBy w9 => (CF.out p.W p.h).2.2.2.2.2.1
    have c6 := fun p : BelowBy w9 => (CF.out p.W p.h).2.2.2.2.2.2.1
    have c7 := fun p : BelowBy w9 => (CF.out p.W p.h).2.2.2.2.2.2.2.1
    have c8 := fun p : BelowBy w9 => (CF.out p.W p.h).2.2.2.2.2.2.2.2.1
    have c9 := fun p : BelowBy w9 => (CF.out p.W p.h).2.2.2.2.2.2.2.2.2.1
    have c10 := fun p : BelowBy w9 => (CF.out p.W p.h).2.2.2.2.2.2.2.2.2.2.1
    have c11 := fun p : BelowBy w9 => (CF.out p.W p.h).2.2.2.2.2.2.2.2.2.2.2.1
    have c12 := fun p : BelowBy w9 => (CF.out p.W p.h).2.2.2.2.2.2.2.2.2.2.2.2.1
    have c13 := fun p : BelowBy w9 => (CF.out p.W p.h).2.2.2.2.2.2.2.2.2.2.2.2.2
    have IFF := Lib.hid (eqE_iff ⟨n0, n1, n2, n3, n4, n5, n6⟩ ⟨kt, ks, em, ti, ki, tt, ts⟩)
    generalize eqE ⟨n0, n1, n2, n3, n4, n5, n6⟩ ⟨kt, ks, em, ti, ki, tt, ts⟩ = Q at *
    by_cases hA : ms = []
    · subst hA
      have tg : decide ((1 : Int) < (([] : List Ev).length : Int) + 1) = false := by simp
      have tg2 : decide ((1 : Int) < 1) = false := by decide
      cases Q
      · clear HM3 IFF
        refine wp_region_quiet_below mixed (by kernel_rfl) (Below.refl w9.heap.size w9) ?_
        repeat (go_big_quiet_step ((go_at_call 23; exact SB.out _)))
        refine wpQuiet_nil ?_
        intro wz hz
        obtain ⟨⟨wz2, bz⟩, hz2⟩ := hz
        subst hz2
        go_wp2_with fail
        go_meet
        exact ⟨rfl, Lib.hid bz⟩
      · have h48 : d3 = 48 := by
          rcases HM3.out with h | h | h
          · exact absurd rfl h
          · exact h.2
          · exact absurd (IFF.out.1 rfl) h
        subst h48
        clear HM3 IFF
        refine wp_region_quiet_below mixed (by kernel_rfl) (Below.refl w9.heap.size w9) ?_
        repeat (go_big_quiet_step ((go_at_call 23; exact SB.out _)))
        refine wpQuiet_nil ?_
        intro wz hz
        obtain ⟨⟨wz2, bz⟩, hz2⟩ := hz
        subst hz2
        go_wp2_with fail
        go_meet
        exact ⟨rfl, Lib.hid bz⟩
    · have hA2 : 1 ≤ ms.length := by
        rcases ms with _ | ⟨_, _⟩
        · exact absurd rfl hA
        · simp
      have tg : decide ((1 : Int) < (ms.length : Int) + 1) = true := decide_eq_true (by omega)
      clear HM3 hA IFF
      generalize ms.length = L at *
      refine wp_region_quiet_below mixed (by kernel_rfl) (Below.refl w9.heap.size w9) ?_
      repeat (go_big_quiet_step ((go_at_call 23; exact SB.out _)))
      refine wpQuiet_nil ?_
      intro wz hz
      obtain ⟨⟨wz2, bz⟩, hz2⟩ := hz
      subst hz2
      go_wp2_with fail
      go_meet
      exact ⟨rfl, Lib.hid bz⟩
  case rest =>
    obtain ⟨hs, HB⟩ := hcut
    subst hs
    go_wp2_with fail
    go_ret
    exact ⟨rfl, FIN.out _ HB.out⟩
end Go.Proofs.Ytebdldinlodgpaa.Rc
