/-
  Layer 5 (period): the walk of PeriodAddsUp: the answer is true. Condition: the table of month lengths reads as the program's text lays it.
-/
import Derived.Test.YtcdilaembophlaaGreatDoorPrYv
import Derived.Test.YtcdilaembophlaaGreatDoorPrYu
namespace Go.Proofs.YtcdilaembophlaaGreatDoor.Per
open Go Go.RowKit Go.Lib Go.Sort Go.Shelf Go.Proofs Go.Proofs.YtcdilaembophlaaGreatDoor Go.Proofs.YtcdilaembophlaaGreatDoor.Cal Go.Proofs.YtcdilaembophlaaGreatDoor.Tp
set_option linter.unusedVariables false

def f2 (x y : Int) (i : Nat) : Int := if i = 0 then x else y
theorem f2_sum (x y : Int) : sumTo (f2 x y) 2 = x + y := by simp [sumTo, f2]
/-- A row of one cut of the walk's own. -/
theorem cut_own (w : World) (c : Int) : CutRow (w.alloc (.cells #[.int .i64 c] 3)) (w.alloc (.cells #[.int .i64 c] 3)).heap.size (some ⟨w.heap.size, 0, none⟩) 1 (fun _ => c) :=
  s_cut _ _ c (by simp) (by go_simp)
theorem cut_box (w : World) (c k a : Int) : CutRow ((w.alloc (.cells #[.int .i64 c] 3)).alloc (.cells #[.int .i64 k, .int .i64 a] 27)) ((w.alloc (.cells #[.int .i64 c] 3)).alloc (.cells #[.int .i64 k, .int .i64 a] 27)).heap.size (some ⟨w.heap.size, 0, none⟩) 1 (fun _ => c) :=
  ((cut_own w c).below ((Below.refl _ _).alloc (Nat.le_refl _) _)).more (by simp)
/-- A cell, and that its block is there. -/
def Cel (w : World) (p i : Nat) (v : Int) : Prop := w.cell? ⟨p, i, none⟩ = some (.int .i64 v) ∧ p < w.heap.size
theorem Cel.more {w w' : World} {p i : Nat} {v : Int} (h : Cel w p i v) (hb : Below w.heap.size w w') : Cel w' p i v := ⟨(hb.cell (p := ⟨p, i, none⟩) h.2).trans h.1, Nat.lt_of_lt_of_le h.2 hb.size⟩
theorem Cel.alloc {w : World} {p i : Nat} {v : Int} (h : Cel w p i v) (o : Obj) : Cel (w.alloc o) p i v := h.more ((Below.refl _ _).alloc (Nat.le_refl _) o)
theorem Cel.of {w : World} {p i : Nat} {v : Int} (h : w.cell? ⟨p, i, none⟩ = some (.int .i64 v)) : Cel w p i v := ⟨h, World.block_lt_of_cell? w ⟨p, i, none⟩ h⟩
theorem below_via {u X v : World} (h : Below X.heap.size X v) (hX : Below u.heap.size u X) : Below u.heap.size u v := hX.trans (h.mono hX.size)
theorem Box2.step2 {w w' : World} {b : Nat} {t : TypeId} {x y : Int} (hb : Below w.heap.size w w') (h : Box2 w b t x y) : Box2 w' b t x y := h.step hb
/-- One, and memory that only grew. -/
def RetA (w : World) (e : Ending) (w' : World) : Prop := e = .returned (.tuple #[.agg #[.int .i64 1, .int .i64 1], .int .i64 0]) ∧ Below w.heap.size w w'
theorem add_one (u0 v0 u1 v1 : Int) (h : addT u0 v0 u1 v1 = (1, 1, 0)) (a1 : 0 ≤ u0) (a2 : u0 ≤ 1000) (a3 : 0 ≤ v0) (a4 : v0 ≤ 1000) (a5 : 0 ≤ u1) (a6 : u1 ≤ 1000) (a7 : 0 ≤ v1) (a8 : v1 ≤ 1000) (w : World) :
    Calls Tryz.prog 20 #[.agg #[.int .i64 u0, .int .i64 v0], .agg #[.int .i64 u1, .int .i64 v1]] w (RetA w) := by
  have c := radd_any u0 v0 u1 v1 (by omega) (by omega) (by omega) (by omega) (by omega) (by omega) (by omega) (by omega) w
  rw [h] at c
  exact c
/-- The whole's weight and the two portions. -/
def PC5 (w : World) (pw pp : Nat) (s u0 v0 u1 v1 : Int) : Prop := Cel w pw 0 s ∧ Cel w pp 0 u0 ∧ Cel w pp 1 v0 ∧ Cel w pp 2 u1 ∧ Cel w pp 3 v1
theorem PC5.more {w w' : World} {pw pp : Nat} {s u0 v0 u1 v1 : Int} (h : PC5 w pw pp s u0 v0 u1 v1) (hb : Below w.heap.size w w') : PC5 w' pw pp s u0 v0 u1 v1 :=
  ⟨h.1.more hb, h.2.1.more hb, h.2.2.1.more hb, h.2.2.2.1.more hb, h.2.2.2.2.more hb⟩
theorem PC5.alloc {w : World} {pw pp : Nat} {s u0 v0 u1 v1 : Int} (h : PC5 w pw pp s u0 v0 u1 v1) (o : Obj) : PC5 (w.alloc o) pw pp s u0 v0 u1 v1 := h.more ((Below.refl _ _).alloc (Nat.le_refl _) o)
/-- What every call of the statement takes. -/
structure AdK (w0 : World) (b cb rb : Nat) (k a F T : Int) (A : Option Addr) (nh : Nat) (hs : List Hol) (wr : World) : Prop where
  g : AG w0 b cb rb k a F T wr
  h : HolK wr b A nh hs
theorem AdK.more {w0 wr w' : World} {b cb rb nh : Nat} {k a F T : Int} {A : Option Addr} {hs : List Hol} (h : AdK w0 b cb rb k a F T A nh hs wr) (hb : Below wr.heap.size wr w') : AdK w0 b cb rb k a F T A nh hs w' := ⟨h.g.more hb, h.h.more hb⟩
theorem AdK.alloc {w0 wr : World} {b cb rb nh : Nat} {k a F T : Int} {A : Option Addr} {hs : List Hol} (h : AdK w0 b cb rb k a F T A nh hs wr) (o : Obj) : AdK w0 b cb rb k a F T A nh hs (wr.alloc o) := ⟨h.g.alloc o, h.h.alloc o⟩
theorem AdK.step {w0 wr w' : World} {b cb rb nh : Nat} {k a F T : Int} {A : Option Addr} {hs : List Hol} (h : AdK w0 b cb rb k a F T A nh hs wr) (hT : TapeAt b w') (hO : Only b wr w') : AdK w0 b cb rb k a F T A nh hs w' := ⟨h.g.step hT hO, h.h.step hO⟩

set_option maxRecDepth 100000 in
set_option maxHeartbeats 32000000 in
theorem adds_walk (t0 : Option Addr) (len cap : Nat) (zs : List Int) (amount : Int) (n0 : -9223372036854775808 ≤ amount) (n1 : amount ≤ 9223372036854775807) (w : World) (hr : IsRow w t0 len cap zs) (hlen : len ≤ 9223372036854775807) (hl : LgIs w) :
    Calls Tryz.prog 4 #[.slice t0 len cap, .int .i64 amount] w (RetV (.bool true) w) := by
  have HL := Lib.hid hl
  have HM := Lib.hid (mod_any amount 100000 n0 n1 (by omega) (by omega))
  have T0 := tape_new hr hlen 57
  have HT := Lib.hid T0
  have HB0 := Lib.hid ((Below.refl w.heap.size w).alloc (Nat.le_refl _) (.cells #[.slice t0 len cap, .int .i64 0] 57))
  have am0 := modT_lo amount 100000 (by omega)
  have am1 := modT_hi amount 100000 (by omega)
  clear hr T0 hl hlen n0 n1
  generalize modT amount 100000 = am at *
  go_enter Tryz.func4, Tryz.ntmps4
  go_wp2_with fail
  refine (gnew_any t0 len cap _).mono ?_
  rintro e w1 ⟨rfl, rfl⟩
  go_wp2_with fail
  refine (tcal_any w.heap.size false _ HT.out).mono ?_
  rintro e w1 ⟨k, a, rfl, okk, k0, k1, a0, a1, T1, O1⟩
  have ok := okk rfl
  clear okk
  have hB1 := (HB0.out).trans (O1.below (Nat.le_refl _) HB0.out.size)
  have G1 : SG w w.heap.size w1.heap.size k a (w1.alloc (.cells #[.int .i64 k, .int .i64 a] 27)) :=
    ⟨T1.alloc _, Box2.new w1 _ k a, hB1.alloc hB1.size _, Nat.le_refl _, by have := T1.lt; omega⟩
  clear T1 O1 HT HB0 hB1
  have GD := G1.more (Below.drew (Below.refl _ _))
  go_wp2_with fail
  go_region_held3 (fun w' => w'.cell? ⟨w1.heap.size, 0, none⟩ = some (.int .i64 k) ∧ w'.cell? ⟨w1.heap.size, 1, none⟩ = some (.int .i64 a))
    (first | exact ⟨GB.cbox.c0, GB.cbox.c1⟩ | exact ⟨GA.cbox.c0, GA.cbox.c1⟩ | exact ⟨GD.cbox.c0, GD.cbox.c1⟩)
    (first
      | (go_at_call 8; refine (tday_any w.heap.size _ GD.tape).mono ?_; rintro e w2 ⟨d, rfl, d0, d1, T2, O2⟩; have GA := GD.step T2 O2; clear T2 O2)
      | (go_at_call 7; refine (rpof_yes k a d ok d0 d1 _).mono ?_; rintro e w3 ⟨rfl, hw3⟩; have GB := GA.more hw3; clear hw3))
  have HG := Lib.hid GB
  clear G1 GD GA GB
  obtain ⟨p0, p1, p2, p3⟩ := nO_in k a d d0 d1
  clear p2 p3
  generalize nO k a d = n at *
  have hsp : spP k a n := ⟨ok, p0, p1⟩
  have sb := span_bd k a n p0 p1
  have CSP := Lib.hid (rpspan_yes k a n hsp)
  generalize hF : sF k a n = F at *
  generalize hT : sT k a n = T at *
  have HF := Lib.hid hF
  have HTT := Lib.hid hT
  clear hF hT
  obtain ⟨s0, s1, s2, s3⟩ := sb
  have OK := Lib.hid ok
  have HSP := Lib.hid hsp
  have HP0 := Lib.hid p0
  have HP1 := Lib.hid p1
  clear ok hsp p0 p1
  have z0 := HG.out.cbox.c0
  have z1 := HG.out.cbox.c1
  go_wp2_with fail
  refine (CSP.out _).mono ?_
  rintro e w4 ⟨rfl, hw4⟩
  have A4 := AG.new (HG.out.more hw4) F T
  clear hw4 HG CSP z0 z1
  go_wp2_with fail
  refine (next_any w.heap.size 3 (by omega) (by omega) _ A4.g.tape).mono ?_
  rintro e w5 ⟨m, rfl, m0, m1, T5, O5⟩
  have HA := Lib.hid (A4.step T5 O5)
  clear T5 O5 A4
  have z0 := HA.out.g.cbox.c0
  go_upto_if 45 with fail
  go_cut [11] (fun s wx => ∃ m : Int, s = .int .i64 m ∧ 0 ≤ m ∧ m ≤ 2 ∧ Hid (m = 2 → k = 0) ∧ Hid (AG w w.heap.size w1.heap.size w4.heap.size k a F T wx))
  case first => as_aux_lemma =>
    by_cases hk : k = 0
    · have tk : (k != 0) = false := by simp [hk]
      go_wp2_with fail
      go_meet
      exact ⟨m, rfl, m0, by omega, Lib.hid fun _ => hk, HA⟩
    · have tk : (k != 0) = true := by simp [hk]
      go_wp2_with fail
      refine (next_any w.heap.size 2 (by omega) (by omega) _ HA.out.g.tape).mono ?_
      rintro e w6 ⟨q, rfl, q0, q1, T6, O6⟩
      go_wp2_with fail
      go_meet
      exact ⟨q, rfl, q0, by omega, Lib.hid fun h => by omega, Lib.hid (HA.out.step T6 O6)⟩
  case rest => as_aux_lemma =>
    clear HA m0 m1 z0
    obtain ⟨m, rfl, m0, m1, HMK, HA⟩ := hcut
    go_wp2_with fail
    refine (thol_any w.heap.size false _ HA.out.g.tape).mono ?_
    rintro e w8 ⟨A, nh, hcap, hs, rfl, nh4, HRr, HNE, hvv, T8, O8⟩
    have hv := Lib.hid (hvv rfl)
    have A8 := HA.out.step T8 O8
    have K8 : AdK w w.heap.size w1.heap.size w4.heap.size k a F T A nh hs w8 := ⟨A8, HRr, fun _ y hy => by have := HNE y hy; omega⟩
    clear HRr HNE hvv T8 O8 A8 HA
    have r0 := K8.g.r.c0
    have r1 := K8.g.r.c1
    by_cases hTF : T = F
    · have tt : (T == F) = true := by simp [hTF]
      clear hTF
      go_wp2_with fail
      refine (psane_any _ (HL.out.below K8.g.g.below)).mono ?_
      rintro e w9 ⟨rfl, hw9⟩
      have K9 := K8.more hw9
      go_wp2_with fail
      go_ret
      exact ⟨rfl, K9.g.g.below⟩
    · have tt : (T == F) = false := by simp [hTF]
      have hlt : F < T := by omega
      clear hTF
      have KD := K8.more (Below.drew (Below.refl _ _))
      have g1 : IntKind.i64.wrap (F + 1) = F + 1 := IntWalk.i64_in _ (by omega)
      have g2 : IntKind.i64.wrap (T - F) = T - F := IntWalk.i64_in _ (by omega)
      go_wp2_with fail
      go_region_held3 (fun w' => w'.cell? ⟨w4.heap.size, 0, none⟩ = some (.int .i64 F) ∧ w'.cell? ⟨w4.heap.size, 1, none⟩ = some (.int .i64 T))
        (first | exact ⟨KA.g.r.c0, KA.g.r.c1⟩ | exact ⟨KD.g.r.c0, KD.g.r.c1⟩)
        (first
          | (go_at_call 15; refine (next_any w.heap.size (T - F) (by omega) (by omega) _ KD.g.g.tape).mono ?_; rintro e w9 ⟨v, rfl, v0, v1, T9, O9⟩; have KA := KD.step T9 O9; have g3 : IntKind.i64.wrap (F + 1 + v) = F + 1 + v := IntWalk.i64_in _ (by omega); clear T9 O9))
      as_aux_lemma =>
      clear g1 g2 g3 r0 r1 KD K8 tt
      have c0 : F < F + 1 + v := by omega
      have c1 : F + 1 + v ≤ T := by omega
      generalize F + 1 + v = c at *
      clear v0 v1
      have HK := Lib.hid KA
      clear KA
      have hp := part_ok k a n m hs OK.out HP0.out HP1.out (by have := HMK.out; omega) hv.out
      rw [HF.out, HTT.out] at hp
      have HPO := Lib.hid hp
      have tmk : (m == 2) = false ∨ ((m == 2) = true ∧ (k != 0) = false) := by
        by_cases hm2 : m = 2
        · exact .inr ⟨by simp [hm2], by simp [HMK.out hm2]⟩
        · exact .inl (by simp [hm2])
      have CW := Lib.hid (show ∀ (ca : Option Addr) (cn ccap : Nat) (g : Nat → Int), cn ≤ 1000000 → dvP g F T cn → ∀ w, CutRow w w.heap.size ca cn g → HolRow w w.heap.size A nh hs → LgIs w → Calls Tryz.prog 16 #[.agg #[.int .i64 k, .int .i64 a], .int .i64 n, .slice ca cn ccap, .int .i64 m, .slice A nh hcap] w (WtsR cn (wtF m (nmAll hs) g F T cn) w) from fun ca cn ccap g h1 hd w h2 h3 h4 => by
        have := pwts_ok k a n m ca cn ccap g A nh hcap hs HSP.out m0 m1 tmk h1 (by rw [HF.out, HTT.out]; exact hd) (by omega) hv.out (by rw [HF.out, HTT.out]; exact HPO.out) w h2 h3 h4
        rw [HF.out, HTT.out] at this
        exact this)
      obtain ⟨hd2, hsum⟩ := two_parts m (nmAll hs) F T c c0 c1
      have hw31 := whole_31 m hs F T hp s3
      have b0 := (wt_bd m (nmAll hs) (by omega) s3 hd2 (i := 0) (by omega)).1
      have b1 := (wt_bd m (nmAll hs) (by omega) s3 hd2 (i := 1) (by omega)).1
      have CW1 := Lib.hid (show ∀ w, HolRow w w.heap.size A nh hs → LgIs w → Calls Tryz.prog 16 #[.agg #[.int .i64 k, .int .i64 a], .int .i64 n, .slice none 0 0, .int .i64 m, .slice A nh hcap] w (WtsR 0 (fun _ => whole m (nmAll hs) F T) w) from fun w h3 h4 =>
        (CW.out none 0 0 (fun _ => 0) (by omega) (no_cuts _ F T) w (fun h => absurd h (by omega)) h3 h4).mono fun e w' r => r.congr fun i hi => by
          obtain rfl : i = 0 := by omega
          exact one_part m (nmAll hs) F T _)
      have CW2 := Lib.hid (show ∀ (x : Addr) (ccap : Nat) w, CutRow w w.heap.size (some x) 1 (fun _ => c) → HolRow w w.heap.size A nh hs → LgIs w → Calls Tryz.prog 16 #[.agg #[.int .i64 k, .int .i64 a], .int .i64 n, .slice (some x) 1 ccap, .int .i64 m, .slice A nh hcap] w (WtsR 1 (f2 (wtF m (nmAll hs) (fun _ => c) F T 1 0) (wtF m (nmAll hs) (fun _ => c) F T 1 1)) w) from fun x ccap w h2 h3 h4 =>
        (CW.out (some x) 1 ccap (fun _ => c) (by omega) hd2 w h2 h3 h4).mono fun e w' r => r.congr fun i hi => by
          rcases i with _ | _ | i
          · rfl
          · rfl
          · omega)
      rw [← hsum] at CW1 hw31
      clear CW hd2 hsum hp
      generalize wtF m (nmAll hs) (fun _ => c) F T 1 0 = x0 at *
      generalize wtF m (nmAll hs) (fun _ => c) F T 1 1 = x1 at *
      obtain ⟨w30, w31, w32⟩ := hw31
      have HW32 := Lib.hid w32
      clear w32
      have z0 := HK.out.g.g.cbox.c0
      have z1 := HK.out.g.g.cbox.c1
      go_wp2_with fail
      refine (CW1.out _ HK.out.h.1 (HL.out.below HK.out.g.g.below)).mono ?_
      rintro e w10 ⟨pw, cw, rfl, _, pwlt, cells1, hw10⟩
      have K10 := HK.out.more hw10
      have y0 := cells1 0 (by omega)
      clear cells1 hw10 HK z0 z1
      as_aux_lemma =>
      have z0 := K10.g.g.cbox.c0
      have z1 := K10.g.g.cbox.c1
      go_wp2_with fail
      have K11 := K10.alloc (.cells #[.int .i64 c] 3)
      refine (CW2.out _ _ _ (cut_own w10 c) K11.h.1 (HL.out.below K11.g.g.below)).mono ?_
      rintro e w12 ⟨pt, ct, rfl, _, ptlt, cells2, hw12⟩
      have K12 := K11.more hw12
      have u0 := cells2 0 (by omega)
      have u1 := cells2 1 (by omega)
      rw [show f2 x0 x1 0 = x0 from rfl] at u0
      rw [show f2 x0 x1 1 = x1 from rfl] at u1
      have hB := ((Below.refl w10.heap.size w10).alloc (Nat.le_refl _) (.cells #[.int .i64 c] 3)).trans (hw12.mono (by simp))
      have y0 := (hB.cell (p := ⟨pw, 0, none⟩) pwlt).trans y0
      have pwlt := Nat.lt_of_lt_of_le pwlt hB.size
      clear cells2 hw12 K10 K11 z0 z1 hB
      as_aux_lemma =>
      have gx : IntKind.i64.wrap (x0 + x1) = x0 + x1 := IntWalk.i64_in _ (by omega)
      go_wp2_with fail
      go_quiet (fail)
      have hq := below_drewN (Below.refl w12.heap.size w12) nq
      have K13 := K12.more hq
      have Y := (Cel.of y0).more hq
      clear K12 y0 pwlt ptlt u0 u1 hq gx
      generalize w12.drewN nq = w13 at *
      have y0 := Y.1
      as_aux_lemma =>
      go_upto_region 16 with fail
      go_cut [121] (fun s wx => s = .bool false ∧ wx = w13)
      case first => as_aux_lemma =>
        rcases hm2 : (m == 2) with _ | _
        · go_wp2_with fail
          go_meet
          exact ⟨rfl, rfl⟩
        · have e30 := HW32.out (by simpa using hm2)
          have t30 : (x0 + x1 != 30) = false := by simp [e30]
          clear e30
          go_wp2_with fail
          go_meet
          exact ⟨rfl, rfl⟩
      case rest => as_aux_lemma =>
        obtain ⟨rfl, rfl⟩ := hcut
        clear y0 tmk
        have K14 := K13.alloc (.cells #[.int .i64 c] 3)
        have K15 := K14.alloc (.cells #[.int .i64 k, .int .i64 a] 27)
        have CP := Lib.hid (CW2.out ⟨wc.heap.size, 0, none⟩ 1 _ (cut_box wc c k a) K15.h.1 (HL.out.below K15.g.g.below))
        have CD := Lib.hid (fun (W : World) (KW : AdK w w.heap.size w1.heap.size w4.heap.size k a F T A nh hs W) => CW2.out ⟨W.heap.size, 0, none⟩ 1 _ (cut_box W c k a) ((KW.alloc (.cells #[.int .i64 c] 3)).alloc (.cells #[.int .i64 k, .int .i64 a] 27)).h.1 (HL.out.below ((KW.alloc (.cells #[.int .i64 c] 3)).alloc (.cells #[.int .i64 k, .int .i64 a] 27)).g.g.below))
        have Y14 := Y.alloc (.cells #[.int .i64 c] 3)
        have z0 := K13.g.g.cbox.c0
        have z1 := K13.g.g.cbox.c1
        have fb : ∀ i, i < 2 → 0 ≤ f2 x0 x1 i ∧ f2 x0 x1 i ≤ 1000 := fun i _ => by unfold f2; split <;> omega
        have FB := Lib.hid fb
        have FS := Lib.hid (f2_sum x0 x1)
        clear K15 CW2 CW1 fb Y
        by_cases hz : x0 + x1 = 0
        · as_aux_lemma =>
          have tz : (x0 + x1 == 0) = true := by simp [hz]
          have HZ := Lib.hid hz
          clear hz
          go_wp2_with fail
          refine (ppt_zero k a n m (some ⟨wc.heap.size, 0, none⟩) 1 1 A nh hcap (f2 x0 x1) (by omega) FB.out (by rw [FS.out, HZ.out]) _ CP.out).mono ?_
          rintro e w15 ⟨rfl, hw15⟩
          have K16 := K14.more hw15
          have Y16 := Y14.more hw15
          clear hw15 K14 Y14 K13 z0 z1
          have KD := K16.more (Below.drew (Below.refl _ _))
          have YD := Y16.more (Below.drew (Below.refl _ _))
          have KDa := KD.alloc (.cells #[.int .i64 c] 3)
          have YDa := YD.alloc (.cells #[.int .i64 c] 3)
          go_wp2_with fail
          go_region_held3 (fun w' => w'.cell? ⟨w1.heap.size, 0, none⟩ = some (.int .i64 k) ∧ w'.cell? ⟨w1.heap.size, 1, none⟩ = some (.int .i64 a))
            (first | exact ⟨KE.g.g.cbox.c0, KE.g.g.cbox.c1⟩ | exact ⟨KDa.g.g.cbox.c0, KDa.g.g.cbox.c1⟩ | exact ⟨KD.g.g.cbox.c0, KD.g.g.cbox.c1⟩)
            (first
              | (go_at_call 19; refine (HM.out _).mono ?_; rintro e w' ⟨rfl, rfl⟩)
              | (go_at_call 18; refine (pdd_zero am k a n m (some ⟨w15.drew.heap.size, 0, none⟩) 1 1 A nh hcap (f2 x0 x1) (by omega) (by omega) (by omega) (fun i hi => (FB.out i hi).1) (fun i hi => by have := (FB.out i hi).2; omega) (by rw [FS.out, HZ.out]) _ (CD.out _ KD)).mono ?_; rintro e w17 ⟨rfl, hw17⟩; have KE := KDa.more hw17; have YE := YDa.more hw17; have y0 := YE.1; clear hw17))
          all_goals
            as_aux_lemma =>
            have KF := KE
            clear KD YD KDa YDa KE YE K16 Y16
            go_wp2_with fail
            refine (psane_any _ (HL.out.below KF.g.g.below)).mono ?_
            rintro e w18 ⟨rfl, hw18⟩
            have KG := KF.more hw18
            go_wp2_with fail
            go_ret
            exact ⟨rfl, KG.g.g.below⟩
        · as_aux_lemma =>
          have tz : (x0 + x1 == 0) = false := by simp [hz]
          have hs1 : 1 ≤ x0 + x1 := by omega
          clear hz
          go_wp2_with fail
          refine (ppt_pos (x0 + x1) k a n m (some ⟨wc.heap.size, 0, none⟩) 1 1 A nh hcap (f2 x0 x1) (by omega) FB.out FS.out hs1 (by omega) _ CP.out).mono ?_
          rintro e w15 ⟨pp, cpp, rfl, _, pplt, cellsP, hw15⟩
          have K16 := K14.more hw15
          have C16 : PC5 w15 pw pp (x0 + x1) (newT x0 (x0 + x1)).1 (newT x0 (x0 + x1)).2.1 (newT x1 (x0 + x1)).1 (newT x1 (x0 + x1)).2.1 :=
            ⟨Y14.more hw15, Cel.of (cellsP 0 (by omega)).1, Cel.of (cellsP 0 (by omega)).2, Cel.of (cellsP 1 (by omega)).1, Cel.of (cellsP 1 (by omega)).2⟩
          have ONE := ones (x0 + x1) x0 x1 hs1 w31 b0 b1 rfl
          have NB0 := new_bd x0 (x0 + x1) b0 (by omega) hs1 (by omega)
          have NB1 := new_bd x1 (x0 + x1) b1 (by omega) hs1 (by omega)
          clear hw15 K14 Y14 K13 z0 z1 cellsP CP
          generalize (newT x0 (x0 + x1)).1 = u0 at C16 ONE NB0
          generalize (newT x0 (x0 + x1)).2.1 = v0 at C16 ONE NB0
          generalize (newT x1 (x0 + x1)).1 = u1 at C16 ONE NB1
          generalize (newT x1 (x0 + x1)).2.1 = v1 at C16 ONE NB1
          obtain ⟨a1, a2, a3, a4⟩ := NB0
          obtain ⟨a5, a6, a7, a8⟩ := NB1
          have CA := Lib.hid (add_one u0 v0 u1 v1 ONE a1 a2 a3 a4 a5 a6 a7 a8)
          clear ONE
          have HK16 := Lib.hid K16
          have HC16 := Lib.hid C16
          clear K16 C16
          as_aux_lemma =>
          go_upto_region 19 with fail
          go_cut [20, 21] (fun s t wx => ∃ (q : Nat) (e0 e1 : Int), s = .slice (some ⟨q, 0, none⟩) 2 2 ∧ t = .int .i64 0 ∧ Hid (e0 + e1 = am) ∧ Hid (AdK w w.heap.size w1.heap.size w4.heap.size k a F T A nh hs wx) ∧ Hid (PC5 wx pw pp (x0 + x1) u0 v0 u1 v1) ∧ Hid (Cel wx q 0 e0) ∧ Hid (Cel wx q 1 e1))
          case first => as_aux_lemma =>
            have : Inhabited (Fin 2) := ⟨0⟩
            have KD := HK16.out.more (Below.drew (Below.refl _ _))
            have YD := HC16.out.more (Below.drew (Below.refl _ _))
            have KDa := KD.alloc (.cells #[.int .i64 c] 3)
            have YDa := YD.alloc (.cells #[.int .i64 c] 3)
            have TOT := Lib.hid (allo_total (n := 2) (T := am) (s := x0 + x1) (g := f2 x0 x1) hs1 FS.out fun i hi => (FB.out i hi).1)
            go_wp2_with fail
            go_region_held3 (fun w' => w'.cell? ⟨w1.heap.size, 0, none⟩ = some (.int .i64 k) ∧ w'.cell? ⟨w1.heap.size, 1, none⟩ = some (.int .i64 a))
              (first | exact ⟨KE.g.g.cbox.c0, KE.g.g.cbox.c1⟩ | exact ⟨KDa.g.g.cbox.c0, KDa.g.g.cbox.c1⟩ | exact ⟨KD.g.g.cbox.c0, KD.g.g.cbox.c1⟩)
              (first
                | (go_at_call 19; refine (HM.out _).mono ?_; rintro e w' ⟨rfl, rfl⟩)
                | (go_at_call 18; refine (pdd_pos am (x0 + x1) k a n m (some ⟨w15.drew.heap.size, 0, none⟩) 1 1 A nh hcap (f2 x0 x1) (by omega) (by omega) (by omega) (fun i hi => (FB.out i hi).1) (fun i hi => by have := (FB.out i hi).2; omega) FS.out hs1 _ (CD.out _ KD)).mono ?_; rintro e w17 ⟨q, rfl, _, qlt, hR, hw17⟩; have KE := KDa.more hw17; have YE := YDa.more hw17; have RE := Lib.hid hR; clear hw17 hR))
            all_goals
              go_wp2_with fail
              go_meet
              exact ⟨q, alloF am (x0 + x1) (f2 x0 x1) 2 0, alloF am (x0 + x1) (f2 x0 x1) 2 1, rfl, rfl, Lib.hid (by have := TOT.out; simpa [sumTo] using this), Lib.hid KE, Lib.hid YE, Lib.hid (Cel.of (RE.out.cell 0 (by omega))), Lib.hid (Cel.of (RE.out.cell 1 (by omega)))⟩
          case rest => as_aux_lemma =>
            clear HK16 HC16
            obtain ⟨q, e0, e1, rfl, rfl, HE, HKx, HCx, HQ0, HQ1⟩ := hcut
            have y0 := HCx.out.1.1
            have z0 := HKx.out.g.g.cbox.c0
            as_aux_lemma =>
            go_upto_region 24 with fail
            clear z0 y0
            go_cut [22, 23] (fun s t wx => ∃ pb : Nat, s = .pointer (some ⟨pb, 0, none⟩) ∧ t = .int .i64 0 ∧ Hid (Box2 wx pb 52 1 1) ∧ Hid (AdK w w.heap.size w1.heap.size w4.heap.size k a F T A nh hs wx) ∧ Hid (Cel wx q 0 e0) ∧ Hid (Cel wx q 1 e1))
            case first => as_aux_lemma =>
              have c0' := HCx.out.2.1.1
              have c1' := HCx.out.2.2.1.1
              have c2' := HCx.out.2.2.2.1.1
              have c3' := HCx.out.2.2.2.2.1
              have lp : pp < wc.heap.size := HCx.out.2.1.2
              go_wp2_with fail
              go_region_with ((first | (go_at_call 20; (with_reducible refine (CA.out _).mono ?_); rintro e w19 ⟨rfl, hw19⟩; have BX19 := Box2.step2 hw19 (Box2.new wc 52 0 0); have x0' := BX19.c0; have x1' := BX19.c1; have x2' := BX19.f0; have x3' := BX19.f1; have HW : Below wc.heap.size wc w19 := below_via hw19 (by first | exact (Below.refl _ _).drew | exact ((Below.refl _ _).alloc (Nat.le_refl _) _).drew | exact (Below.refl _ _).drew.alloc (Nat.le_refl _) _ | exact ((Below.refl _ _).drew.alloc (Nat.le_refl _) _).drew)) | (go_at_call 20; (with_reducible refine (CA.out _).mono ?_); rintro e w19 ⟨rfl, hw19⟩; have HW : Below wc.heap.size wc w19 := below_via hw19 (by first | exact (Below.refl _ _).drew | exact ((Below.refl _ _).alloc (Nat.le_refl _) _).drew | exact (Below.refl _ _).drew.alloc (Nat.le_refl _) _ | exact ((Below.refl _ _).drew.alloc (Nat.le_refl _) _).drew))))
              all_goals (go_wp2_with fail; go_meet)
              all_goals
                first
                  | exact ⟨w19.heap.size, rfl, rfl, Lib.hid (Box2.new w19 _ 1 1), Lib.hid (HKx.out.more (HW.alloc HW.size _)), Lib.hid (HQ0.out.more (HW.alloc HW.size _)), Lib.hid (HQ1.out.more (HW.alloc HW.size _))⟩
                  | exact ⟨wc.heap.size, rfl, rfl, Lib.hid (Tp.box_set1 (Tp.box_set0 BX19 1) 1), Lib.hid (HKx.out.more ((HW.setCell (Nat.le_refl _) _).setCell (Nat.le_refl _) _)), Lib.hid (HQ0.out.more ((HW.setCell (Nat.le_refl _) _).setCell (Nat.le_refl _) _)), Lib.hid (HQ1.out.more ((HW.setCell (Nat.le_refl _) _).setCell (Nat.le_refl _) _))⟩
            case rest => as_aux_lemma =>
              clear HKx HCx HQ0 HQ1 CA
              obtain ⟨pb, rfl, rfl, HBX, HK2, HP0, HP1⟩ := hcut
              have ee := HE.out
              subst ee
              have gq : IntKind.i64.wrap (e0 + e1) = e0 + e1 := IntWalk.i64_in _ (by omega)
              have BD := HBX.out.step (Below.drew (Below.refl _ _))
              have KD := HK2.out.more (Below.drew (Below.refl _ _))
              have PA := HP0.out.more (Below.drew (Below.refl _ _))
              have PB := HP1.out.more (Below.drew (Below.refl _ _))
              have CS := Lib.hid (psane_any _ (HL.out.below KD.g.g.below))
              go_wp2_with fail
              go_region_held3 (fun w' => w'.cell? ⟨pb, 0, none⟩ = some (.int .i64 1) ∧ w'.cell? ⟨pb, 1, none⟩ = some (.int .i64 1) ∧ w'.cell? ⟨q, 0, none⟩ = some (.int .i64 e0) ∧ w'.cell? ⟨q, 1, none⟩ = some (.int .i64 e1))
                (first | exact ⟨BE.c0, BE.c1, PE.1, PF.1⟩ | exact ⟨BD.c0, BD.c1, PA.1, PB.1⟩)
                (first
                  | (go_at_call 19; refine (HM.out _).mono ?_; rintro e w' ⟨rfl, rfl⟩)
                  | (go_at_call 14; refine CS.out.mono ?_; rintro e w20 ⟨rfl, hw20⟩; have BE := BD.step hw20; have PE := PA.more hw20; have PF := PB.more hw20; have KE := KD.more hw20))
              all_goals
                go_wp2
                go_ret
                exact ⟨rfl, KE.g.g.below⟩
end Go.Proofs.YtcdilaembophlaaGreatDoor.Per
