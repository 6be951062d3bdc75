/-
  Layer 8 (inbox): the walk of InboxMerges: the answer is true. Condition: the tape reads as numbers, the lists as events.
-/
import Derived.Test.YtebdldinlodgpaaPrL9
import Derived.Test.YtebdldinlodgpaaPrQb
namespace Go.Proofs.Ytebdldinlodgpaa.Ib
open Go Go.RowKit Go.Lib Go.Sort Go.Shelf Go.Proofs Go.Proofs.Ytebdldinlodgpaa Go.Proofs.Ytebdldinlodgpaa.Tp Go.Proofs.Ytebdldinlodgpaa.Gm Go.Proofs.Ytebdldinlodgpaa.Rc Go.Proofs.Ytebdldinlodgpaa.SE
set_option linter.unusedVariables false
theorem erw_lst {B : Nat} {v : Value} {es : List Ev} {W : World} (h : ERw B v es W) : ∃ A cap, v = .slice A es.length cap ∧ Lst W A es.length cap es := by
  rcases h.2 with ⟨e, h0⟩ | ⟨g, cap, cur, e, h1, h2, h3, h4, _⟩
  · have : es = [] := List.length_eq_zero_iff.1 h0
    subst this
    exact ⟨none, 0, e, ⟨rfl, fun h => absurd h (by simp)⟩, fun _ => ⟨rfl, rfl⟩, by simp⟩
  · subst e
    obtain ⟨r1, r2, r3, r4⟩ := own_row h rfl
    exact ⟨_, cap, rfl, r1.row r3, fun h => (by cases h), by unfold maxLen at h4; omega⟩
theorem only_of2 {b : Nat} {c : Option Nat} {u w w' : World} (h : Only b u w) (h2 : Only2 b c w w') (hc : ∀ k, c = some k → u.heap.size ≤ k) : Only b u w' :=
  ⟨h2.os.trans h.os, h2.tape.trans h.tape, h2.output.trans h.output, Nat.le_trans h.size h2.size, fun k hk hn => (h2.block k (Nat.lt_of_lt_of_le hk h.size) hn (fun e => by have := hc k e.symm; omega)).trans (h.block k hk hn)⟩
def Fin (tb : Nat) (w1 : World) (w : World) : Prop := TapeAt tb w ∧ Only tb w1 w

set_option maxRecDepth 100000 in
set_option maxHeartbeats 8000000 in
theorem inboxMerges_walk (t0 : Option Addr) (len cap : Nat) (zs : List Int) (a : Option Addr) (na ca : Nat) (l : List Ev) (b : Option Addr) (nb cb : Nat) (m : List Ev) (w : World) (ha : Lst w a na ca l) (hb : Lst w b nb cb m) (hr : IsRow w t0 len cap zs) (hlen : len ≤ 9223372036854775807) :
    Calls Try.prog 9 #[.slice t0 len cap, .slice a na ca, .slice b nb cb] w (TrueR w) := by
  have HA := Lib.hid ha
  have HB := Lib.hid hb
  have T0 := Lib.hid (tape_new hr hlen 73)
  have B0 : Hid (Below w.heap.size w (w.alloc (.cells #[.slice t0 len cap, .int .i64 0] 73))) := Lib.hid ((Below.refl _ _).alloc (Nat.le_refl _) _)
  clear ha hb hr hlen
  go_enter Try.func9, Try.ntmps9
  go_wp2_with fail
  refine (gnew_any t0 len cap _).mono ?_
  rintro r w1 ⟨rfl, rfl⟩
  generalize w.alloc (.cells #[.slice t0 len cap, .int .i64 0] 73) = w1 at *
  have HTB : Hid (w.heap.size ≤ w.heap.size) := Lib.hid (Nat.le_refl _)
  generalize hb : w.heap.size = tb at *
  clear HTB
  have HBB : Hid (w.heap.size = tb) := Lib.hid hb
  clear hb
  go_wp2_with fail
  go_loopw [8] (fun z wr => ∃ k : Nat, k ≤ 3 ∧ z = .int .i64 k ∧ Hid (Fin tb w1 wr)) (fun z _ => (3 - intOf z).toNat)
  case atStart => exact ⟨0, by omega, rfl, Lib.hid ⟨T0.out, Only.refl _ _⟩⟩
  case round =>
    clear T0
    obtain ⟨k, hk, rfl, HF⟩ := hrel
    by_cases hlt : k < 3
    · have i1 : decide ((k : Int) < 3) = true := decide_eq_true (by omega)
      have htl := HF.out.1.lt
      have EV1 := Lib.hid (events2_any tb 8 (by decide) wr HF.out.1)
      go_wp2_with fail
      refine EV1.out.mono ?_
      rintro e w2 ⟨v1, es1, rfl, r1, l1, _, T2, O2⟩
      have SP1 := Lib.hid (spoilt_any tb wr.heap.size v1 es1 w2 r1 T2 htl (by omega))
      have F2 := Lib.hid (show Only tb wr w2 from O2)
      have ROWN : Hid (∀ k, v1.ownBlock = some k → wr.heap.size ≤ k) := Lib.hid fun k hk => (World.ownsRow.lt r1 k hk).1
      clear r1 l1 T2 O2 EV1
      go_wp2_with fail
      refine SP1.out.mono ?_
      rintro e w3 ⟨es1', rfl, r1', T3, S3⟩
      have F3 := Lib.hid (only_of2 F2.out S3 ROWN.out)
      have R1 := Lib.hid r1'
      have EV2 := Lib.hid (events2_any tb 8 (by decide) w3 T3)
      have htl3 := T3.lt
      clear T3 S3 r1' SP1 F2
      go_wp2_with fail
      refine EV2.out.mono ?_
      rintro e w4 ⟨v2, es2, rfl, r2, l2, _, T4, O4⟩
      have SP2 := Lib.hid (spoilt_any tb w3.heap.size v2 es2 w4 r2 T4 htl3 (by omega))
      have F4 := Lib.hid (F3.out.trans O4)
      have R14 : Hid (ERw wr.heap.size v1 es1' w4) := Lib.hid (row_keep R1.out fun g hg => O4.block g (World.ownsRow.lt R1.out g hg).2 (by have := (World.ownsRow.lt R1.out g hg).1; omega))
      have R1L : Hid (∀ g, v1.ownBlock = some g → g < w3.heap.size) := Lib.hid fun g hg => (World.ownsRow.lt R1.out g hg).2
      have ROW2 : Hid (∀ k, v2.ownBlock = some k → w3.heap.size ≤ k) := Lib.hid fun k hk => (World.ownsRow.lt r2 k hk).1
      have Z4 := Lib.hid O4.size
      clear r2 l2 T4 O4 EV2 R1
      go_wp2_with fail
      refine SP2.out.mono ?_
      rintro e w5 ⟨es2', rfl, r2', T5, S5⟩
      have F5 : Hid (Only tb wr w5) := Lib.hid (only_of2 F4.out S5 (fun k hk => Nat.le_trans F3.out.size (ROW2.out k hk)))
      have R15 : Hid (ERw wr.heap.size v1 es1' w5) := Lib.hid (row_keep R14.out fun g hg => S5.block g (World.ownsRow.lt R14.out g hg).2 (by have := (World.ownsRow.lt R14.out g hg).1; omega) (fun e => by have h1 := ROW2.out g e.symm; have h2 := R1L.out g hg; omega))
      obtain ⟨A1, C1, hv1, L1⟩ := erw_lst R15.out
      obtain ⟨A2, C2, hv2, L2⟩ := erw_lst r2'
      have MM := Lib.hid (merges_any A1 es1'.length C1 es1' A2 es2'.length C2 es2' w5 L1 L2)
      rw [← hv1, ← hv2] at MM
      have HT5 := Lib.hid T5
      have HF5 := Lib.hid (HF.out.2.trans F5.out)
      unfold TruE at MM
      clear hv1 hv2 L1 L2 R15 R14 r2' T5 S5 SP2 F4 F5 F3 ROW2 ROWN R1L Z4 HF
      go_wp2_with fail
      refine MM.out.mono ?_
      rintro e w6 ⟨rfl, b6⟩
      have F6 : Hid (Fin tb w1 w6) := Lib.hid ⟨HT5.out.below b6, HF5.out.trans (Only.of_below b6)⟩
      clear MM HT5 HF5 b6
      go_wp2_with fail
      go_roundw
      case rel => exact ⟨k + 1, by omega, by go_num, F6⟩
      case measure => simp [intOf]; omega
    · obtain rfl : k = 3 := by omega
      have i1 : decide (((3 : Nat) : Int) < 3) = false := by decide
      have GE1 := Lib.hid (gevent_any tb wr HF.out.1)
      go_wp2_with fail
      refine GE1.out.mono ?_
      rintro e w2 ⟨x, rfl, _, T2, O2⟩
      have GE2 := Lib.hid (gevent_any tb w2 T2)
      have F2 := Lib.hid (HF.out.2.trans O2)
      clear T2 O2 GE1 HF
      obtain ⟨x0, x1, x2, x3, x4, x5, x6⟩ := x
      unfold vE
      simp only
      go_wp2_with fail
      refine GE2.out.mono ?_
      rintro e w3 ⟨y, rfl, _, T3, O3⟩
      have F3 := Lib.hid (F2.out.trans O3)
      clear T3 O3 GE2 F2
      obtain ⟨y0, y1, y2, y3, y4, y5, y6⟩ := y
      unfold vE
      simp only
      go_upto_region 8 with fail
      have ZX : Hid (At4 ((w3.alloc (.cells #[.int .i64 x0, .int .i64 x1, .int .i64 x2, .int .i64 x3, .int .i64 x4, .int .i64 x5, .int .i64 x6] 26)).alloc (.cells #[.int .i64 y0, .int .i64 y1, .int .i64 y2, .int .i64 y3, .int .i64 y4, .int .i64 y5, .int .i64 y6] 26)) ⟨w3.heap.size, 0, none⟩ ⟨x0, x1, x2, x3, x4, x5, x6⟩) := Lib.hid (by unfold At4; refine ⟨?_, ?_, ?_, ?_, ?_, ?_, ?_⟩ <;> go_simp)
      have ZY : Hid (At4 ((w3.alloc (.cells #[.int .i64 x0, .int .i64 x1, .int .i64 x2, .int .i64 x3, .int .i64 x4, .int .i64 x5, .int .i64 x6] 26)).alloc (.cells #[.int .i64 y0, .int .i64 y1, .int .i64 y2, .int .i64 y3, .int .i64 y4, .int .i64 y5, .int .i64 y6] 26)) ⟨w3.heap.size + 1, 0, none⟩ ⟨y0, y1, y2, y3, y4, y5, y6⟩) := Lib.hid (by unfold At4; refine ⟨?_, ?_, ?_, ?_, ?_, ?_, ?_⟩ <;> go_simp)
      have FZ := Lib.hid ((F3.out.alloc (.cells #[.int .i64 x0, .int .i64 x1, .int .i64 x2, .int .i64 x3, .int .i64 x4, .int .i64 x5, .int .i64 x6] 26)).alloc (.cells #[.int .i64 y0, .int .i64 y1, .int .i64 y2, .int .i64 y3, .int .i64 y4, .int .i64 y5, .int .i64 y6] 26))
      generalize (w3.alloc (.cells #[.int .i64 x0, .int .i64 x1, .int .i64 x2, .int .i64 x3, .int .i64 x4, .int .i64 x5, .int .i64 x6] 26)).alloc (.cells #[.int .i64 y0, .int .i64 y1, .int .i64 y2, .int .i64 y3, .int .i64 y4, .int .i64 y5, .int .i64 y6] 26) = wz at *
      have BZ : Hid (Below tb w wz) := Lib.hid (B0.out.trans (FZ.out.below (Nat.le_refl _) (by have := B0.out.size; have := HBB.out; omega)))
      have HAz : Hid (Lst wz a na ca l) := Lib.hid (HA.out.more (by rw [HBB.out]; exact BZ.out))
      have HBz : Hid (Lst wz b nb cb m) := Lib.hid (HB.out.more (by rw [HBB.out]; exact BZ.out))
      have mixed : Try.prog.follows Departure.mixedOrders = true := by kernel_rfl
      clear F3 FZ HA HB B0
      go_cut [55] (fun s wx => s = .bool false ∧ Hid (Below wz.heap.size wz wx))
      case first =>
        clear ZX ZY BZ HBB
        rcases Nat.eq_zero_or_pos na with h0 | h0
        · have d0 : decide ((0 : Int) < (na : Int)) = false := decide_eq_false (by omega)
          refine wp_region_quiet_below (w0 := wz) mixed (by kernel_rfl) (Below.refl _ _) ?_
          repeat (go_big_quiet_step (fail))
          refine wpQuiet_nil ?_
          intro w8 hz
          obtain ⟨⟨w8', b8⟩, hz8⟩ := hz
          subst hz8
          go_wp2_with fail
          go_meet
          exact ⟨rfl, Lib.hid b8⟩
        · have d0 : decide ((0 : Int) < (na : Int)) = true := decide_eq_true (by omega)
          have i0 : (0 : Int) < (na : Int) := by omega
          rcases Nat.eq_zero_or_pos nb with h1 | h1
          · have d1 : decide ((0 : Int) < (nb : Int)) = false := decide_eq_false (by omega)
            refine wp_region_quiet_below (w0 := wz) mixed (by kernel_rfl) (Below.refl _ _) ?_
            repeat (go_big_quiet_step (fail))
            refine wpQuiet_nil ?_
            intro w8 hz
            obtain ⟨⟨w8', b8⟩, hz8⟩ := hz
            subst hz8
            go_wp2_with fail
            go_meet
            exact ⟨rfl, Lib.hid b8⟩
          · have d1 : decide ((0 : Int) < (nb : Int)) = true := decide_eq_true (by omega)
            have j0 : (0 : Int) < (nb : Int) := by omega
            obtain ⟨xa, hxa, _, hca⟩ := HAz.out.1.2 h0
            obtain ⟨xb, hxb, _, hcb⟩ := HBz.out.1.2 h1
            have ca0 := hca 0 h0
            have cb0 := hcb 0 h1
            rw [Nat.zero_mul, show ∀ y : Addr, y.add 0 = y from fun y => by unfold Addr.add; rw [if_pos rfl]] at ca0 cb0
            subst hxa
            subst hxb
            generalize l[0]! = lx at *
            generalize m[0]! = mx at *
            have KA : ∀ P : BelowBy wz, At4 P.W xa lx := fun P => ca0.block (P.h.block _ ca0.lt)
            have KB : ∀ P : BelowBy wz, At4 P.W xb mx := fun P => cb0.block (P.h.block _ cb0.lt)
            have D1 : Hid (∀ P : BelowBy wz, Calls Try.prog 34 #[vE lx, vE mx] P.W fun r W' => r = .returned (.int .i64 (cmpE lx mx)) ∧ ∃ p2 : BelowBy wz, W' = p2.W) := Lib.hid fun P => (cmpe_any lx mx P.W).mono fun _ W' h => ⟨h.1, ⟨W', P.h.trans (h.2.below.mono P.h.size)⟩, rfl⟩
            have D2 : Hid (∀ P : BelowBy wz, Calls Try.prog 35 #[vE lx, vE mx] P.W fun r W' => r = .returned (.int .i64 (cmpE lx mx)) ∧ ∃ p2 : BelowBy wz, W' = p2.W) := Lib.hid fun P => (rcmp_any lx mx P.W).mono fun _ W' h => ⟨h.1, ⟨W', P.h.trans (h.2.below.mono P.h.size)⟩, rfl⟩
            clear hca hcb ca0 cb0 HAz HBz
            generalize cmpE lx mx = C at *
            have tc : (C != C) = false := by simp
            obtain ⟨c0, c1, c2, c3, c4, c5, c6⟩ := lx
            obtain ⟨d0, d1, d2, d3, d4, d5, d6⟩ := mx
            unfold vE at D1 D2
            simp only at D1 D2
            have u0 := fun P : BelowBy wz => (KA P).1
            have u1 := fun P : BelowBy wz => (KA P).2.1
            have u2 := fun P : BelowBy wz => (KA P).2.2.1
            have u3 := fun P : BelowBy wz => (KA P).2.2.2.1
            have u4 := fun P : BelowBy wz => (KA P).2.2.2.2.1
            have u5 := fun P : BelowBy wz => (KA P).2.2.2.2.2.1
            have u6 := fun P : BelowBy wz => (KA P).2.2.2.2.2.2
            have v0 := fun P : BelowBy wz => (KB P).1
            have v1 := fun P : BelowBy wz => (KB P).2.1
            have v2 := fun P : BelowBy wz => (KB P).2.2.1
            have v3 := fun P : BelowBy wz => (KB P).2.2.2.1
            have v4 := fun P : BelowBy wz => (KB P).2.2.2.2.1
            have v5 := fun P : BelowBy wz => (KB P).2.2.2.2.2.1
            have v6 := fun P : BelowBy wz => (KB P).2.2.2.2.2.2
            simp only at u0 u1 u2 u3 u4 u5 u6 v0 v1 v2 v3 v4 v5 v6
            clear KA KB
            refine wp_region_quiet_below (w0 := wz) mixed (by kernel_rfl) (Below.refl _ _) ?_
            repeat (go_big_quiet_step ((first | (go_at_call 34; (with_reducible exact D1.out _)) | (go_at_call 35; (with_reducible exact D2.out _)))))
            refine wpQuiet_nil ?_
            intro w8 hz
            obtain ⟨⟨w8', b8⟩, hz8⟩ := hz
            subst hz8
            clear D1 D2 u0 u1 u2 u3 u4 u5 u6 v0 v1 v2 v3 v4 v5 v6
            go_wp2_with fail
            go_meet
            exact ⟨rfl, Lib.hid b8⟩
      case rest =>
        obtain ⟨hs, hB⟩ := hcut
        subst hs
        have SZZ : tb ≤ wz.heap.size := by have := BZ.out.size; have := HBB.out; omega
        have B8 := Lib.hid (BZ.out.trans (hB.out.mono SZZ))
        have SZ8 : Hid (tb ≤ wc.heap.size) := Lib.hid (by have := hB.out.size; omega)
        have KX : ∀ P : BelowBy wc, At4 P.W ⟨w3.heap.size, 0, none⟩ ⟨x0, x1, x2, x3, x4, x5, x6⟩ := fun P => (ZX.out.block (hB.out.block _ ZX.out.lt)).block (P.h.block _ (Nat.lt_of_lt_of_le ZX.out.lt hB.out.size))
        have KY : ∀ P : BelowBy wc, At4 P.W ⟨w3.heap.size + 1, 0, none⟩ ⟨y0, y1, y2, y3, y4, y5, y6⟩ := fun P => (ZY.out.block (hB.out.block _ ZY.out.lt)).block (P.h.block _ (Nat.lt_of_lt_of_le ZY.out.lt hB.out.size))
        have D1 : Hid (∀ P : BelowBy wc, Calls Try.prog 34 #[vE ⟨x0, x1, x2, x3, x4, x5, x6⟩, vE ⟨y0, y1, y2, y3, y4, y5, y6⟩] P.W fun r W' => r = .returned (.int .i64 (cmpE ⟨x0, x1, x2, x3, x4, x5, x6⟩ ⟨y0, y1, y2, y3, y4, y5, y6⟩)) ∧ ∃ p2 : BelowBy wc, W' = p2.W) := Lib.hid fun P => (cmpe_any _ _ P.W).mono fun _ W' h => ⟨h.1, ⟨W', P.h.trans (h.2.below.mono P.h.size)⟩, rfl⟩
        have D2 : Hid (∀ P : BelowBy wc, Calls Try.prog 35 #[vE ⟨x0, x1, x2, x3, x4, x5, x6⟩, vE ⟨y0, y1, y2, y3, y4, y5, y6⟩] P.W fun r W' => r = .returned (.int .i64 (cmpE ⟨x0, x1, x2, x3, x4, x5, x6⟩ ⟨y0, y1, y2, y3, y4, y5, y6⟩)) ∧ ∃ p2 : BelowBy wc, W' = p2.W) := Lib.hid fun P => (rcmp_any _ _ P.W).mono fun _ W' h => ⟨h.1, ⟨W', P.h.trans (h.2.below.mono P.h.size)⟩, rfl⟩
        have DG : Hid (∀ P : BelowBy wc, Calls Try.prog 32 #[.slice a na ca, .slice b nb cb] P.W fun r W' => r = .returned (.bool true) ∧ ∃ p2 : BelowBy wc, W' = p2.W) := Lib.hid fun P => (merges_any a na ca l b nb cb m P.W ((HAz.out.more hB.out).more P.h) ((HBz.out.more hB.out).more P.h)).mono fun _ W' h => ⟨h.1, ⟨W', P.h.trans (h.2.mono P.h.size)⟩, rfl⟩
        have DS : Hid (∀ P : BelowBy wc, Calls Try.prog 36 #[] P.W fun r W' => r = .returned (.bool true) ∧ ∃ p2 : BelowBy wc, W' = p2.W) := Lib.hid fun P => (sane_any P.W).mono fun _ W' h => ⟨h.1, ⟨W', P.h.trans (h.2.mono P.h.size)⟩, rfl⟩
        generalize cmpE ⟨x0, x1, x2, x3, x4, x5, x6⟩ ⟨y0, y1, y2, y3, y4, y5, y6⟩ = C at *
        have tc : (C == C) = true := by simp
        unfold vE at D1 D2
        simp only at D1 D2
        have u0 := fun P : BelowBy wc => (KX P).1
        have u1 := fun P : BelowBy wc => (KX P).2.1
        have u2 := fun P : BelowBy wc => (KX P).2.2.1
        have u3 := fun P : BelowBy wc => (KX P).2.2.2.1
        have u4 := fun P : BelowBy wc => (KX P).2.2.2.2.1
        have u5 := fun P : BelowBy wc => (KX P).2.2.2.2.2.1
        have u6 := fun P : BelowBy wc => (KX P).2.2.2.2.2.2
        have v0 := fun P : BelowBy wc => (KY P).1
        have v1 := fun P : BelowBy wc => (KY P).2.1
        have v2 := fun P : BelowBy wc => (KY P).2.2.1
        have v3 := fun P : BelowBy wc => (KY P).2.2.2.1
        have v4 := fun P : BelowBy wc => (KY P).2.2.2.2.1
        have v5 := fun P : BelowBy wc => (KY P).2.2.2.2.2.1
        have v6 := fun P : BelowBy wc => (KY P).2.2.2.2.2.2
        simp only at u0 u1 u2 u3 u4 u5 u6 v0 v1 v2 v3 v4 v5 v6
        clear KX KY ZX ZY HAz HBz hB BZ SZZ
        by_cases g1 : 40 < na
        · have e1 : decide ((40 : Int) < (na : Int)) = true := decide_eq_true (by omega)
          go_upto_region 10 with fail
          refine wp_region_quiet_below (w0 := wc) mixed (by kernel_rfl) (Below.refl _ _) ?_
          repeat (go_big_quiet_step ((first | (go_at_call 34; (with_reducible exact D1.out _)) | (go_at_call 35; (with_reducible exact D2.out _)) | (go_at_call 32; (with_reducible exact DG.out _)) | (go_at_call 36; (with_reducible exact DS.out _)))))
          refine wpQuiet_nil ?_
          intro w9 hz
          obtain ⟨⟨w9', b9⟩, hz9⟩ := hz
          subst hz9
          have BF := Lib.hid (B8.out.trans (b9.mono SZ8.out))
          clear D1 D2 DG DS b9 u0 u1 u2 u3 u4 u5 u6 v0 v1 v2 v3 v4 v5 v6
          go_wp2_with fail
          go_ret
          refine ⟨by simp, ?_⟩
          rw [HBB.out]
          exact BF.out
        · have e1 : decide ((40 : Int) < (na : Int)) = false := decide_eq_false (by omega)
          by_cases g2 : 40 < nb
          · have e2 : decide ((40 : Int) < (nb : Int)) = true := decide_eq_true (by omega)
            go_upto_region 10 with fail
            refine wp_region_quiet_below (w0 := wc) mixed (by kernel_rfl) (Below.refl _ _) ?_
            repeat (go_big_quiet_step ((first | (go_at_call 34; (with_reducible exact D1.out _)) | (go_at_call 35; (with_reducible exact D2.out _)) | (go_at_call 32; (with_reducible exact DG.out _)) | (go_at_call 36; (with_reducible exact DS.out _)))))
            refine wpQuiet_nil ?_
            intro w9 hz
            obtain ⟨⟨w9', b9⟩, hz9⟩ := hz
            subst hz9
            have BF := Lib.hid (B8.out.trans (b9.mono SZ8.out))
            clear D1 D2 DG DS b9 u0 u1 u2 u3 u4 u5 u6 v0 v1 v2 v3 v4 v5 v6
            go_wp2_with fail
            go_ret
            refine ⟨by simp, ?_⟩
            rw [HBB.out]
            exact BF.out
          · have e2 : decide ((40 : Int) < (nb : Int)) = false := decide_eq_false (by omega)
            go_upto_region 10 with fail
            refine wp_region_quiet_below (w0 := wc) mixed (by kernel_rfl) (Below.refl _ _) ?_
            repeat (go_big_quiet_step ((first | (go_at_call 34; (with_reducible exact D1.out _)) | (go_at_call 35; (with_reducible exact D2.out _)) | (go_at_call 32; (with_reducible exact DG.out _)) | (go_at_call 36; (with_reducible exact DS.out _)))))
            refine wpQuiet_nil ?_
            intro w9 hz
            obtain ⟨⟨w9', b9⟩, hz9⟩ := hz
            subst hz9
            have BF := Lib.hid (B8.out.trans (b9.mono SZ8.out))
            clear D1 D2 DG DS b9 u0 u1 u2 u3 u4 u5 u6 v0 v1 v2 v3 v4 v5 v6
            go_wp2_with fail
            go_ret
            refine ⟨by simp, ?_⟩
            rw [HBB.out]
            exact BF.out
end Go.Proofs.Ytebdldinlodgpaa.Ib
