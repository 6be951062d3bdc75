/-
  Layer 5 (period): the walks of PeriodSpans and PeriodPartition: the answer is true. Condition: the table of month lengths reads as the program's text lays it.
-/
import Derived.Test.YtcdilaembophlaaDoorPrYl
namespace Go.Proofs.YtcdilaembophlaaDoor.Per
open Go Go.RowKit Go.Lib Go.Proofs.YtcdilaembophlaaDoor Go.Proofs.YtcdilaembophlaaDoor.Cal Go.Proofs.YtcdilaembophlaaDoor.Tp
set_option linter.unusedVariables false

theorem five5 (w : World) (x y z q r : Int) (t : TypeId) : ∀ i, i < ([x, y, z, q, r] : List Int).length → (w.alloc (.cells #[.int .i64 x, .int .i64 y, .int .i64 z, .int .i64 q, .int .i64 r] t)).cell? ⟨w.heap.size, i, none⟩ = some (.int .i64 (([x, y, z, q, r] : List Int).getD i 0)) := by
  intro i hi
  rcases i with _ | _ | _ | _ | _ | i
  · go_simp
  · go_simp
  · go_simp
  · go_simp
  · go_simp
  · simp at hi; omega
theorem cnV_bd (k a : Int) : 0 ≤ cnV k a ∧ cnV k a ≤ 12003 := by
  have := cnt_bd k a
  unfold cnV; split <;> omega
/-- The tape at block b, a box that was made ahead of it. -/
structure SG (w0 : World) (b cb : Nat) (ck ca : Int) (wr : World) : Prop where
  tape : TapeAt b wr
  cbox : Box2 wr cb 24 ck ca
  below : Below w0.heap.size w0 wr
  hb : w0.heap.size ≤ b
  ne : cb ≠ b
theorem SG.step {w0 wr w' : World} {b cb : Nat} {ck ca : Int} (h : SG w0 b cb ck ca wr) (hT : TapeAt b w') (hO : Only b wr w') : SG w0 b cb ck ca w' :=
  ⟨hT, (hO.block cb h.cbox.lt h.ne).trans h.cbox, h.below.trans (hO.below h.hb h.below.size), h.hb, h.ne⟩
theorem SG.more {w0 wr w' : World} {b cb : Nat} {ck ca : Int} (h : SG w0 b cb ck ca wr) (hb : Below wr.heap.size wr w') : SG w0 b cb ck ca w' :=
  ⟨h.tape.below hb, h.cbox.step hb, h.below.trans (hb.mono h.below.size), h.hb, h.ne⟩
theorem SG.alloc {w0 wr : World} {b cb : Nat} {ck ca : Int} (h : SG w0 b cb ck ca wr) (o : Obj) : SG w0 b cb ck ca (wr.alloc o) := h.more ((Below.refl _ _).alloc (Nat.le_refl _) o)
/-- .. and a box of the round's own. -/
structure SX (w0 : World) (b cb xb : Nat) (ck ca k a : Int) (wr : World) : Prop where
  g : SG w0 b cb ck ca wr
  x : Box2 wr xb 24 k a
  nx : xb ≠ b
theorem SX.step {w0 wr w' : World} {b cb xb : Nat} {ck ca k a : Int} (h : SX w0 b cb xb ck ca k a wr) (hT : TapeAt b w') (hO : Only b wr w') : SX w0 b cb xb ck ca k a w' :=
  ⟨h.g.step hT hO, (hO.block xb h.x.lt h.nx).trans h.x, h.nx⟩
theorem SX.more {w0 wr w' : World} {b cb xb : Nat} {ck ca k a : Int} (h : SX w0 b cb xb ck ca k a wr) (hb : Below wr.heap.size wr w') : SX w0 b cb xb ck ca k a w' :=
  ⟨h.g.more hb, h.x.step hb, h.nx⟩
theorem SX.alloc {w0 wr : World} {b cb xb : Nat} {ck ca k a : Int} (h : SX w0 b cb xb ck ca k a wr) (o : Obj) : SX w0 b cb xb ck ca k a (wr.alloc o) := h.more ((Below.refl _ _).alloc (Nat.le_refl _) o)
theorem SX.new {w0 wr : World} {b cb : Nat} {ck ca : Int} (h : SG w0 b cb ck ca wr) (k a : Int) : SX w0 b cb wr.heap.size ck ca k a (wr.alloc (.cells #[.int .i64 k, .int .i64 a] 24)) :=
  ⟨h.alloc _, Box2.new wr _ k a, by have := h.tape.lt; omega⟩

set_option maxRecDepth 100000 in
set_option maxHeartbeats 8000000 in
theorem spans_walk (t0 : Option Addr) (len cap : Nat) (zs : List Int) (ck ca day n : Int) (n0 : -9223372036854775808 ≤ n) (n1 : n ≤ 9223372036854775807) (w : World) (hr : IsRow w t0 len cap zs) (hlen : len ≤ 9223372036854775807) (hl : LgIs w) :
    Calls Tryd.prog 3 #[.slice t0 len cap, .agg #[.int .i64 ck, .int .i64 ca], .int .i64 day, .int .i64 n] w (RetV (.bool true) w) := by
  have HL := Lib.hid hl
  have HM := Lib.hid (mod_any n 4 n0 n1 (by omega) (by omega))
  have hB0 : Below w.heap.size w (w.alloc (.cells #[.int .i64 ck, .int .i64 ca] 24)) := (Below.refl _ _).alloc (Nat.le_refl _) _
  have hr1 : IsRow (w.alloc (.cells #[.int .i64 ck, .int .i64 ca] 24)) t0 len cap zs := by
    rcases hr with h | ⟨x, h1, h2, h3, h4, h5, h6⟩
    · exact .inl h
    · exact .inr ⟨x, h1, h2, h3, h4, fun i hi => (hB0.cell (World.block_lt_of_cell? w _ (h5 i hi))).trans (h5 i hi), h6⟩
  have T0 := tape_new hr1 hlen 45
  have G0 : SG w (w.heap.size + 1) w.heap.size ck ca ((w.alloc (.cells #[.int .i64 ck, .int .i64 ca] 24)).alloc (.cells #[.slice t0 len cap, .int .i64 0] 45)) :=
    ⟨by rwa [World.size_alloc] at T0, (Box2.new w _ ck ca).alloc _, hB0.alloc hB0.size _, by omega, by omega⟩
  have HG := Lib.hid G0
  have HSZ := Lib.hid (World.size_alloc w (.cells #[.int .i64 ck, .int .i64 ca] 24))
  clear hr hr1 T0 G0 hl hB0 hlen n0 n1
  go_enter Tryd.func3, Tryd.ntmps3
  go_wp2_with fail
  refine (gnew_any t0 len cap _).mono ?_
  rintro e w1 ⟨rfl, rfl⟩
  rw [HSZ.out]
  go_wp2_with fail
  go_loopw [10] (fun z wr => ∃ i : Nat, i ≤ 4 ∧ z = .int .i64 i ∧ Hid (SG w (w.heap.size + 1) w.heap.size ck ca wr)) (fun z _ => 4 - (intOf z).toNat)
  case atStart => exact ⟨0, by omega, rfl, HG⟩
  case round =>
    clear HG
    obtain ⟨i, hi, rfl, HS⟩ := hrel
    by_cases hlt : i < 4
    · go_wp2_with fail
      refine (tcal_any (w.heap.size + 1) true _ HS.out.tape).mono ?_
      rintro e w1 ⟨k, a, rfl, _, k0, k1, a0, a1, T1, O1⟩
      have X1 := SX.new (HS.out.step T1 O1) k a
      clear T1 O1 HS
      go_wp2_with fail
      refine (tday_any (w.heap.size + 1) _ X1.g.tape).mono ?_
      rintro e w2 ⟨d, rfl, d0, d1, T2, O2⟩
      have X2 := X1.step T2 O2
      have z0 := X2.x.c0
      have z1 := X2.x.c1
      clear T2 O2 X1
      go_wp2_with fail
      refine (rpof_any k a d _).mono ?_
      rintro e w3 ⟨rfl, hw3⟩
      have X3 := X2.more hw3
      have C := Lib.hid (rpcount_any k a)
      have CS := Lib.hid (fun v w hl => spans_any k a d v w hl)
      obtain ⟨c0, c1⟩ := cnV_bd k a
      generalize ofV k a d = m at *
      generalize cnV k a = N at *
      clear hw3 X2 z0 z1
      have XD := X3.more (Below.drew (Below.refl _ _))
      have gw : IntKind.i64.wrap (N - 1) = N - 1 := IntWalk.i64_in _ (by omega)
      go_wp2_with fail
      go_region_held3 (fun w' => w'.cell? ⟨w1.heap.size, 0, none⟩ = some (.int .i64 k) ∧ w'.cell? ⟨w1.heap.size, 1, none⟩ = some (.int .i64 a))
        (first | exact ⟨XE.x.c0, XE.x.c1⟩ | exact ⟨XC.x.c0, XC.x.c1⟩ | exact ⟨XBa.x.c0, XBa.x.c1⟩ | exact ⟨XB.x.c0, XB.x.c1⟩ | exact ⟨XA.x.c0, XA.x.c1⟩ | exact ⟨XD.x.c0, XD.x.c1⟩)
        (first
          | (go_at_call 11; refine (C.out _).mono ?_; rintro e w5 ⟨rfl, hw5⟩; have XB := XA.more hw5; have XBa := XB.alloc (.cells #[.int .i64 m, .int .i64 0, .int .i64 (N - 1), .int .i64 N, .int .i64 (-1)] 3); clear hw5)
          | (go_at_call 11; refine (C.out _).mono ?_; rintro e w4 ⟨rfl, hw4⟩; have XA := XD.more hw4; clear hw4)
          | (go_at_call 10; refine (pick_any _ w5.heap.size [m, 0, N - 1, N, -1] (by simp) (by simp) (by have := XB.g.tape.lt; omega) _ XBa.g.tape (five5 w5 m 0 (N - 1) N (-1) 3)).mono ?_; rintro e w6 ⟨pd, rfl, _, T6, O6⟩; have XC := XBa.step T6 O6; clear T6 O6)
          | (go_at_call 9; refine (CS.out pd _ (HL.out.below XC.g.below)).mono ?_; rintro e w7 ⟨rfl, hw7⟩; have XE := XC.more hw7; clear hw7))
      have HS := Lib.hid XE.g
      clear X3 XD XA XB XBa XC XE gw C CS
      go_wp2_with fail
      go_roundw
      case rel => exact ⟨i + 1, by omega, by go_num, HS⟩
      case measure =>
        show 4 - ((i : Int) + 1).toNat < 4 - (i : Int).toNat
        omega
    · obtain rfl : i = 4 := by omega
      have z0 := HS.out.cbox.c0
      have z1 := HS.out.cbox.c1
      go_wp2_with fail
      refine (spans_any ck ca day n _ (HL.out.below HS.out.below)).mono ?_
      rintro e w2 ⟨rfl, hw2⟩
      have S2 := HS.out.more hw2
      clear hw2 z0 z1
      go_wp2_with fail
      refine (HM.out _).mono ?_
      rintro e w3 ⟨rfl, rfl⟩
      generalize modT n 4 = q at *
      go_wp2_with fail
      refine (spans_any q 0 day n _ (HL.out.below S2.below)).mono ?_
      rintro e w3 ⟨rfl, hw3⟩
      have S3 := S2.more hw3
      clear hw3
      go_wp2_with fail
      refine (psane_any _ (HL.out.below S3.below)).mono ?_
      rintro e w4 ⟨rfl, hw4⟩
      have S4 := S3.more hw4
      clear hw4
      go_wp2_with fail
      go_ret
      exact ⟨rfl, S4.below⟩

/-- The spans of two consecutive periods, as PeriodPartition tests them. -/
theorem part_facts (k a d : Int) (h : okP k a) (d0 : 0 ≤ d) (d1 : d ≤ 84005) : 0 ≤ nO k a d ∧ nO k a d < cnt k a ∧ sF k a (nO k a d) ≤ d ∧ d ≤ sT k a (nO k a d) ∧ sT k a (nO k a d) ≤ 84005 ∧ 0 ≤ sF k a (nO k a d) := by
  have a1 := nO_in k a d d0 d1
  have a2 := span_bd k a (nO k a d) a1.1 a1.2.1
  omega
set_option maxRecDepth 100000 in
set_option maxHeartbeats 8000000 in
theorem part_walk (t0 : Option Addr) (len cap : Nat) (zs : List Int) (day : Int) (n0 : -9223372036854775808 ≤ day) (n1 : day ≤ 9223372036854775807) (w : World) (hr : IsRow w t0 len cap zs) (hlen : len ≤ 9223372036854775807) (hl : LgIs w) :
    Calls Tryd.prog 4 #[.slice t0 len cap, .int .i64 day] w (RetV (.bool true) w) := by
  have HL := Lib.hid hl
  have HM := Lib.hid (mod_any day 84006 n0 n1 (by omega) (by omega))
  have T0 := tape_new hr hlen 45
  have HT := Lib.hid T0
  have HB0 := Lib.hid ((Below.refl w.heap.size w).alloc (Nat.le_refl _) (.cells #[.slice t0 len cap, .int .i64 0] 45))
  have m0 := modT_lo day 84006 (by omega)
  have m1 := modT_hi day 84006 (by omega)
  clear hr T0 hl hlen n0 n1
  generalize modT day 84006 = dm at *
  go_enter Tryd.func4, Tryd.ntmps4
  go_wp2_with fail
  refine (gnew_any t0 len cap _).mono ?_
  rintro e w1 ⟨rfl, rfl⟩
  go_wp2_with fail
  refine (tcal_any w.heap.size false _ HT.out).mono ?_
  rintro e w1 ⟨k, a, rfl, okk, _, _, _, _, T1, O1⟩
  have ok := okk rfl
  clear okk
  have G1 : SG w w.heap.size w1.heap.size k a (w1.alloc (.cells #[.int .i64 k, .int .i64 a] 24)) :=
    ⟨T1.alloc _, Box2.new w1 _ k a, ((HB0.out).trans (O1.below (Nat.le_refl _) HB0.out.size)).alloc ((HB0.out).trans (O1.below (Nat.le_refl _) HB0.out.size)).size _, Nat.le_refl _, by have := T1.lt; omega⟩
  clear T1 O1 HT HB0
  go_wp2_with fail
  refine (HM.out _).mono ?_
  rintro e w2 ⟨rfl, rfl⟩
  go_wp2_with fail
  refine (next_any w.heap.size 2 (by omega) (by omega) _ G1.tape).mono ?_
  rintro e w2 ⟨v, rfl, v0, v1, T2, O2⟩
  have HG2 := Lib.hid (G1.step T2 O2)
  clear T2 O2 G1
  go_upto_if 24 with fail
  go_cut [7] (fun s wx => ∃ d : Int, s = .int .i64 d ∧ 0 ≤ d ∧ d ≤ 84005 ∧ Hid (SG w w.heap.size w1.heap.size k a wx))
  case first =>
    rcases hv : (v == 0) with _ | _
    · go_wp2_with fail
      go_meet
      exact ⟨dm, rfl, m0, by omega, HG2⟩
    · go_wp2_with fail
      refine (tday_any w.heap.size _ HG2.out.tape).mono ?_
      rintro e w3 ⟨d, rfl, d0, d1, T3, O3⟩
      go_wp2_with fail
      go_meet
      exact ⟨d, rfl, d0, d1, Lib.hid (HG2.out.step T3 O3)⟩
  case rest =>
    clear HG2 m0 m1
    obtain ⟨d, rfl, d0, d1, HS⟩ := hcut
    obtain ⟨p0, p1, p2, p3, p4, p5⟩ := part_facts k a d ok d0 d1
    have C1 := Lib.hid (fun w hl => pof_yes k a d ok d0 d1 w hl)
    have C2 := Lib.hid (fun w hl => pspan_yes k a (nO k a d) ⟨ok, p0, p1⟩ w hl)
    have C3 := Lib.hid (fun w hl => pcount_yes k a ok w hl)
    have C4 := Lib.hid (fun w hl => (by have := pof_yes k a 0 ok (by omega) (by omega) w hl; rwa [nO_zero] at this : Calls Tryd.prog 15 #[.agg #[.int .i64 k, .int .i64 a], .int .i64 0] w (RetT 0 0 w)))
    have E1 := Lib.hid (span_last k a (nO k a d))
    have E2 := Lib.hid (span_next k a (nO k a d) p0)
    have C5 := Lib.hid (fun h w hl => pspan_yes k a (nO k a d + 1) h w hl)
    have C6 := Lib.hid (fun h w hl => pspan_far k a (nO k a d + 1) ok h w hl)
    have p6 := (cnt_bd k a).2
    have OK2 := Lib.hid (show nO k a d + 1 < cnt k a → spP k a (nO k a d + 1) from fun h => ⟨ok, by omega, h⟩)
    generalize nO k a d = n at *
    generalize sF k a n = F at *
    generalize sT k a n = T at *
    generalize cnt k a = N at *
    have z0 := HS.out.cbox.c0
    have z1 := HS.out.cbox.c1
    go_wp2_with fail
    refine (C1.out _ (HL.out.below HS.out.below)).mono ?_
    rintro e w2 ⟨rfl, hw2⟩
    have S2 := HS.out.more hw2
    clear hw2 z0 z1 HS
    have z0 := S2.cbox.c0
    have z1 := S2.cbox.c1
    go_wp2_with fail
    refine (C2.out _ (HL.out.below S2.below)).mono ?_
    rintro e w3 ⟨rfl, hw3⟩
    have S3 := (S2.more hw3).alloc (.cells #[.int .i64 F, .int .i64 T] 40)
    have R3 := Box2.new w3 40 F T
    clear hw3 z0 z1 S2
    have z0 := S3.cbox.c0
    have z1 := S3.cbox.c1
    have r0 := R3.c0
    have r1 := R3.c1
    have t1 : decide (d < F) = false := decide_eq_false (by omega)
    have t2 : decide (T < d) = false := decide_eq_false (by omega)
    have t3 : decide (n < 0) = false := decide_eq_false (by omega)
    have t4 : decide (N ≤ n) = false := decide_eq_false (by omega)
    go_wp2_with fail
    refine (C3.out _ (HL.out.below S3.below)).mono ?_
    rintro e w4 ⟨rfl, hw4⟩
    have S4 := S3.more hw4
    have R4 := R3.step hw4
    clear hw4 z0 z1 r0 r1 S3 R3
    have z0 := S4.cbox.c0
    have z1 := S4.cbox.c1
    by_cases hlast : n + 1 = N
    · have ET : T = 84005 := E1.out hlast
      have tT : (T == 84005) = true := by simp [ET]
      have tN : (n + 1 == N) = true := by simp [hlast]
      have CC := Lib.hid (C6.out (.inr (by omega)))
      clear ET hlast
      go_wp2_with fail
      refine (CC.out _ (HL.out.below S4.below)).mono ?_
      rintro e w5 ⟨rfl, hw5⟩
      have S5 := (S4.more hw5).alloc (.cells #[.int .i64 0, .int .i64 0] 40)
      have R5 := (R4.step hw5).alloc (.cells #[.int .i64 0, .int .i64 0] 40)
      clear hw5 z0 z1 S4 R4
      have z0 := S5.cbox.c0
      have z1 := S5.cbox.c1
      go_wp2_with fail
      refine (C3.out _ (HL.out.below S5.below)).mono ?_
      rintro e w6 ⟨rfl, hw6⟩
      have S6 := S5.more hw6
      have R6 := R5.step hw6
      clear hw6 z0 z1 S5 R5
      have r0 := R6.c0
      have r1 := R6.c1
      go_wp2_with fail
      refine (psane_any _ (HL.out.below S6.below)).mono ?_
      rintro e w7 ⟨rfl, hw7⟩
      have S7 := S6.more hw7
      go_wp2_with fail
      go_ret
      exact ⟨rfl, S7.below⟩
    · have CC := Lib.hid (C5.out (OK2.out (by omega)))
      have EF := E2.out (by omega)
      rw [EF] at CC
      have tN : (n + 1 == N) = false := by simp [hlast]
      clear EF hlast
      generalize sT k a (n + 1) = T2 at *
      go_wp2_with fail
      refine (CC.out _ (HL.out.below S4.below)).mono ?_
      rintro e w5 ⟨rfl, hw5⟩
      have S5 := (S4.more hw5).alloc (.cells #[.int .i64 (T + 1), .int .i64 T2] 40)
      have R5 := (R4.step hw5).alloc (.cells #[.int .i64 (T + 1), .int .i64 T2] 40)
      have Q5 := Box2.new w5 40 (T + 1) T2
      clear hw5 z0 z1 S4 R4
      have z0 := S5.cbox.c0
      have z1 := S5.cbox.c1
      go_wp2_with fail
      refine (C3.out _ (HL.out.below S5.below)).mono ?_
      rintro e w6 ⟨rfl, hw6⟩
      have S6 := S5.more hw6
      have R6 := R5.step hw6
      have Q6 := Q5.step hw6
      clear hw6 z0 z1 S5 R5 Q5
      have z0 := S6.cbox.c0
      have z1 := S6.cbox.c1
      go_wp2_with fail
      refine (C4.out _ (HL.out.below S6.below)).mono ?_
      rintro e w7 ⟨rfl, hw7⟩
      have S7 := S6.more hw7
      have R7 := R6.step hw7
      have Q7 := Q6.step hw7
      clear hw7 z0 z1 S6 R6 Q6
      have r0 := R7.c0
      have r1 := R7.c1
      have q0 := Q7.c0
      have q1 := Q7.c1
      go_wp2_with fail
      refine (psane_any _ (HL.out.below S7.below)).mono ?_
      rintro e w8 ⟨rfl, hw8⟩
      have S8 := S7.more hw8
      go_wp2_with fail
      go_ret
      exact ⟨rfl, S8.below⟩
end Go.Proofs.YtcdilaembophlaaDoor.Per
