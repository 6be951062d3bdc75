/-
  Layer 6 (timeline): the contract of Merge. Condition: the lists read as changes.
-/
import Derived.Test.YtdpgmjmmnjbbiaaPrUh
namespace Go.Proofs.Ytdpgmjmmnjbbiaa.Tl
open Go Go.RowKit Go.Lib Go.Sort Go.Shelf Go.Proofs Go.Proofs.Ytdpgmjmmnjbbiaa Go.Proofs.Ytdpgmjmmnjbbiaa.Tp
set_option linter.unusedVariables false

def mrgE (l m : List Chg) : Int := if valE l ≠ 0 then valE l else if valE m ≠ 0 then valE m else if 1024 < (unionL l m).length then 3 else 0
def mrgL (l m : List Chg) : List Chg := if mrgE l m = 0 then unionL l m else []
/-- Nothing, or a row of the call's own. -/
def OwnA (l : List Chg) (w : World) (w' : World) (a : Option Addr) (cap : Nat) : Prop := (a = none ∧ l = [] ∧ cap = 0) ∨ ∃ g, a = some ⟨g, 0, none⟩ ∧ RowC w' g l.toArray ∧ w.heap.size ≤ g ∧ g < w'.heap.size ∧ l.length ≤ cap
def MrgR (l m : List Chg) (w : World) (e : Ending) (w' : World) : Prop := ∃ a cap, e = .returned (.tuple #[.slice a (mrgL l m).length cap, .int .i64 (mrgE l m)]) ∧ OwnA (mrgL l m) w w' a cap ∧ Below w.heap.size w w'
theorem unionL_eq (l m : List Chg) : unionL l m = comp eqC (asc (l ++ m)) := rfl
theorem mrg_bad {l m : List Chg} {c : Int} {w w' : World} (hc : c ≠ 0) (h : mrgE l m = c) (hb : Below w.heap.size w w') : MrgR l m w (.returned (.tuple #[.slice none 0 0, .int .i64 c])) w' := by
  have e : mrgL l m = [] := if_neg (by rw [h]; exact hc)
  exact ⟨none, 0, by rw [e, h]; rfl, .inl ⟨rfl, e, rfl⟩, hb⟩

set_option maxRecDepth 100000 in
set_option maxHeartbeats 4000000 in
theorem merge_any (a : Option Addr) (na ca : Nat) (l : List Chg) (b : Option Addr) (nb cb : Nat) (m : List Chg) (w : World) (ha : Lst w a na ca l) (hb : Lst w b nb cb m) :
    Calls Try.prog 14 #[.slice a na ca, .slice b nb cb] w (MrgR l m w) := by
  have C1 := Lib.hid (valid_any a na ca l ha.2.2 w ha.1)
  have HA := Lib.hid ha
  have HB := Lib.hid hb
  clear ha hb
  by_cases h1 : valE l = 0
  · have C2 := Lib.hid (fun W (h : Lst W b nb cb m) => valid_any b nb cb m h.2.2 W h.1)
    have n1 : na ≤ 1024 := by have := (valE_ok h1).1; rw [← HA.out.1.1]; exact this
    rw [h1] at C1
    by_cases h2 : valE m = 0
    · have n2 : nb ≤ 1024 := by have := (valE_ok h2).1; rw [← HB.out.1.1]; exact this
      rw [h2] at C2
      have E0 := Lib.hid (show mrgE l m = if 1024 < (unionL l m).length then 3 else 0 by unfold mrgE; rw [if_neg (by simp [h1]), if_neg (by simp [h2])])
      have NX := Lib.hid (show (l ++ m).length ≤ 2048 by have := (valE_ok h1).1; have := (valE_ok h2).1; simp; omega)
      clear h1 h2
      go_enter Try.func14, Try.ntmps14
      go_wp2_with fail
      refine C1.out.mono ?_
      rintro e w1 ⟨rfl, b1⟩
      have HA1 := Lib.hid (HA.out.more b1)
      have HB1 := Lib.hid (HB.out.more b1)
      have B1 := Lib.hid b1
      clear b1 HA HB C1
      go_wp2_with fail
      refine (C2.out w1 HB1.out).mono ?_
      rintro e w2 ⟨rfl, b2⟩
      have HA2 := Lib.hid (HA1.out.more b2)
      have HB2 := Lib.hid (HB1.out.more b2)
      have B2 := Lib.hid (B1.out.trans (b2.mono B1.out.size))
      clear b2 HA1 HB1 B1 C2
      have HP : Hid (Pair (w2.alloc (.cells #[.slice a na ca, .slice b nb cb] 23)) w2.heap.size a na ca l b nb cb m) :=
        Lib.hid ⟨by go_simp, by go_simp, HA2.out.more ((Below.refl _ _).alloc (Nat.le_refl _) _), HB2.out.more ((Below.refl _ _).alloc (Nat.le_refl _) _)⟩
      go_wp2_with fail
      refine (concat_two w2.heap.size a na ca l b nb cb m (by omega) (by omega) _ HP.out).mono ?_
      rintro e w3 ⟨a3, c3, rfl, h3, b3⟩
      have B3 := Lib.hid (B2.out.trans (Below.trans ((Below.refl w.heap.size w2).alloc B2.out.size _) (b3.mono (by have := B2.out.size; simp; omega))))
      have S3 : w.heap.size ≤ w2.heap.size := B2.out.size
      have HU := Lib.hid (unionL_eq l m)
      clear b3 B2 HA2 HB2 HP
      generalize l ++ m = x at *
      rcases h3 with ⟨rfl, rfl, rfl⟩ | ⟨g, rfl, r3, g0, g1, hc⟩
      · have EU := Lib.hid (show unionL l m = [] from List.length_eq_zero_iff.1 (by rw [HU.out]; have h := comp_length eqC (asc []); rw [asc_length] at h; simpa using h))
        have EE := Lib.hid (show mrgE l m = 0 by rw [E0.out, EU.out]; rfl)
        clear E0 HU
        go_wp2_with fail
        refine (sort_none _ _ _ _).mono ?_
        rintro e w4 ⟨rfl, rfl⟩
        go_wp2_with fail
        refine (cps_none _).mono ?_
        rintro e w5 ⟨rfl, rfl⟩
        go_wp2_with fail
        go_ret2
        have EL : mrgL l m = [] := by unfold mrgL; rw [if_pos EE.out, EU.out]
        exact ⟨none, 0, by rw [EL, EE.out]; rfl, .inl ⟨rfl, EL, rfl⟩, B3.out⟩
      · have gw : w.heap.size ≤ g := by simp at g0; omega
        have R3 := Lib.hid r3
        have hx := NX.out
        clear r3 g0
        go_wp2_with fail
        refine (asc_l g c3 x w3 R3.out g1 (by omega)).mono ?_
        rintro e w4 ⟨rfl, r4, o4⟩
        have R4 := Lib.hid r4
        have O4 := Lib.hid o4
        have g4 := only_lt o4 g1
        have HY := Lib.hid (asc_length x)
        clear r4 o4 R3
        generalize asc x = y at *
        have CC := cps_n g c3 x.length y HY.out w4 R4.out g4 (by have := HY.out; omega) (by have := HY.out; omega)
        go_wp2_with fail
        refine CC.mono ?_
        rintro e w5 ⟨rfl, r5, o5⟩
        have R5 := Lib.hid r5
        have O5 := Lib.hid (O4.out.trans o5)
        have g5 := only_lt o5 g4
        have B5 := Lib.hid (B3.out.trans (O5.out.below gw B3.out.size))
        have HL := Lib.hid (show (comp eqC y).length ≤ x.length from by have := comp_length eqC y; have := HY.out; omega)
        clear r5 o5 R4 O4 CC
        rw [← HU.out] at R5 HL
        rw [← HU.out]
        generalize hz : unionL l m = z at *
        have HZ := Lib.hid hz
        have hz2 := HL.out
        clear hz
        by_cases h9 : 1024 < z.length
        · have EE := Lib.hid (show mrgE l m = 3 by rw [E0.out]; exact if_pos h9)
          have t9 : decide ((1024 : Int) < (z.length : Int)) = true := decide_eq_true (by omega)
          clear E0
          go_wp2_with fail
          go_ret2
          exact mrg_bad (by decide) EE.out B5.out
        · have EE := Lib.hid (show mrgE l m = 0 by rw [E0.out]; exact if_neg h9)
          have t9 : decide ((1024 : Int) < (z.length : Int)) = false := decide_eq_false (by omega)
          clear E0
          go_wp2_with fail
          go_ret2
          have EL : mrgL l m = z := by unfold mrgL; rw [if_pos EE.out, HZ.out]
          unfold MrgR
          rw [EL, EE.out]
          exact ⟨_, c3, rfl, .inr ⟨g, rfl, R5.out, gw, g5, by omega⟩, B5.out⟩
    · have EE := Lib.hid (show mrgE l m = valE m by unfold mrgE; rw [if_neg (by simp [h1]), if_pos h2])
      have t0 : (valE m != 0) = true := by simpa using h2
      have H2 := Lib.hid h2
      generalize valE m = c at *
      clear h1 h2
      go_enter Try.func14, Try.ntmps14
      go_wp2_with fail
      refine C1.out.mono ?_
      rintro e w1 ⟨rfl, b1⟩
      have HB1 := Lib.hid (HB.out.more b1)
      have B1 := Lib.hid b1
      clear b1 HA HB C1
      go_wp2_with fail
      refine (C2.out w1 HB1.out).mono ?_
      rintro e w2 ⟨rfl, b2⟩
      have B2 := Lib.hid (B1.out.trans (b2.mono B1.out.size))
      clear b2
      go_wp2_with fail
      go_ret2
      exact mrg_bad H2.out EE.out B2.out
  · have EE := Lib.hid (show mrgE l m = valE l by unfold mrgE; rw [if_pos h1])
    have t0 : (valE l != 0) = true := by simpa using h1
    have H1 := Lib.hid h1
    generalize valE l = c at *
    clear h1
    go_enter Try.func14, Try.ntmps14
    go_wp2_with fail
    refine C1.out.mono ?_
    rintro e w1 ⟨rfl, b1⟩
    have B1 := Lib.hid b1
    clear b1 HA HB
    go_wp2_with fail
    go_ret2
    exact mrg_bad H1.out EE.out B1.out
end Go.Proofs.Ytdpgmjmmnjbbiaa.Tl
