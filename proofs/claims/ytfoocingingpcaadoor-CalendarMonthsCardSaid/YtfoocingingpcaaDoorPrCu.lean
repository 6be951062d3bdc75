/-
  CalendarMonths and CalendarDays: the walks: the program and the reference give the same; the answer is true. Condition: the listed variables read as the program's text lays them.
-/
import Derived.Test.YtfoocingingpcaaDoorPrTp
namespace Go.Proofs.YtfoocingingpcaaDoor
open Go Go.RowKit Go.Lib Go.Proofs.YtfoocingingpcaaDoor.Tp

set_option maxRecDepth 100000 in
set_option maxHeartbeats 4000000 in
theorem months_walk (n y : Int) (hn : Fits n) (hy : Fits y) (w : World) (hok : OKC w) :
    Calls Tryd.prog 5 #[.int .i64 n, .int .i64 y] w fun e w' => e = .returned (.bool true) ∧ Below w.heap.size w w' := by
  have m0 := modT_lo n 2762 (by omega)
  have m1 := modT_hi n 2762 (by omega)
  have M := Lib.hid (mod_any n 2762 hn.1 hn.2 (by omega) (by omega))
  have k0 := modT_lo y 232 (by omega)
  have k1 := modT_hi y 232 (by omega)
  have K := Lib.hid (mod_any y 232 hy.1 hy.2 (by omega) (by omega))
  generalize modT n 2762 = m at m0 m1 M
  generalize modT y 232 = k at k0 k1 K
  have HY := Lib.hid hy
  have HK : Hid (Fits (1969 + k)) := Lib.hid ⟨by omega, by omega⟩
  clear hn hy
  go_enter Tryd.func5, Tryd.ntmps5
  go_wp2_with (go_at_call 12; (with_reducible refine (M.out _).mono ?_); rintro e w' ⟨rfl, rfl⟩)
  have hB1 : Below w.heap.size w (w.alloc (.cells #[.int .i64 n, .int .i64 (m - 1)] 3)) := Below.alloc (Below.refl _ _) (Nat.le_refl _) _
  have c0 : (w.alloc (.cells #[.int .i64 n, .int .i64 (m - 1)] 3)).cell? ⟨w.heap.size, 0, none⟩ = some (.int .i64 n) := by go_simp
  have c1 : (w.alloc (.cells #[.int .i64 n, .int .i64 (m - 1)] 3)).cell? ⟨w.heap.size, 1, none⟩ = some (.int .i64 (m - 1)) := by go_simp
  generalize w.alloc (.cells #[.int .i64 n, .int .i64 (m - 1)] 3) = w1 at hB1 c0 c1
  have hl1 := hok.lg.below hB1
  go_loop [23] (fun z => ∃ i : Nat, i ≤ 2 ∧ z = .int .i64 i) (fun z => 2 - (intOf z).toNat)
  case atStart => exact ⟨0, by omega, rfl⟩
  case round =>
    obtain ⟨i, hi, rfl⟩ := hrel
    rcases (by omega : i = 0 ∨ i = 1 ∨ i = 2) with rfl | rfl | rfl
    · go_wp2_with (first | (go_at_call 34; (with_reducible refine (cfirst_v _ _ hl1).mono ?_); rintro e w' ⟨rfl, rfl⟩) | (go_at_call 35; (with_reducible refine (rfirst_v _ _).mono ?_); rintro e w' ⟨rfl, rfl⟩) | (go_at_call 36; (with_reducible refine (clen_v _ _ hl1).mono ?_); rintro e w' ⟨rfl, rfl⟩) | (go_at_call 37; (with_reducible refine (rlen_v _ _).mono ?_); rintro e w' ⟨rfl, rfl⟩))
      go_round
      case rel => exact ⟨1, by omega, by go_num⟩
      case measure => simp [intOf]
    · go_wp2_with (first | (go_at_call 34; (with_reducible refine (cfirst_v _ _ hl1).mono ?_); rintro e w' ⟨rfl, rfl⟩) | (go_at_call 35; (with_reducible refine (rfirst_v _ _).mono ?_); rintro e w' ⟨rfl, rfl⟩) | (go_at_call 36; (with_reducible refine (clen_v _ _ hl1).mono ?_); rintro e w' ⟨rfl, rfl⟩) | (go_at_call 37; (with_reducible refine (rlen_v _ _).mono ?_); rintro e w' ⟨rfl, rfl⟩))
      go_round
      case rel => exact ⟨2, by omega, by go_num⟩
      case measure => simp [intOf]
    · go_wp2_with (go_at_call 12; (with_reducible refine (K.out _).mono ?_); rintro e w' ⟨rfl, rfl⟩)
      have hB2 : Below w.heap.size w (w1.alloc (.cells #[.int .i64 y, .int .i64 (1969 + k)] 3)) := hB1.alloc hB1.size _
      have d0 : (w1.alloc (.cells #[.int .i64 y, .int .i64 (1969 + k)] 3)).cell? ⟨w1.heap.size, 0, none⟩ = some (.int .i64 y) := by go_simp
      have d1 : (w1.alloc (.cells #[.int .i64 y, .int .i64 (1969 + k)] 3)).cell? ⟨w1.heap.size, 1, none⟩ = some (.int .i64 (1969 + k)) := by go_simp
      generalize w1.alloc (.cells #[.int .i64 y, .int .i64 (1969 + k)] 3) = w2 at hB2 d0 d1
      have hl2 := hok.lg.below hB2
      clear hl1 c0 c1
      go_loop [59] (fun z => ∃ i : Nat, i ≤ 2 ∧ z = .int .i64 i) (fun z => 2 - (intOf z).toNat)
      case atStart => exact ⟨0, by omega, rfl⟩
      case round =>
        obtain ⟨i, hi, rfl⟩ := hrel
        rcases (by omega : i = 0 ∨ i = 1 ∨ i = 2) with rfl | rfl | rfl
        · go_wp2_with (first | (go_at_call 38; (with_reducible refine (ceaster_v _ HY.out _ hl2).mono ?_); rintro e w' ⟨rfl, rfl⟩) | (go_at_call 39; (with_reducible refine (reaster_v _ _).mono ?_); rintro e w' ⟨rfl, rfl⟩))
          go_round
          case rel => exact ⟨1, by omega, by go_num⟩
          case measure => simp [intOf]
        · go_wp2_with (first | (go_at_call 38; (with_reducible refine (ceaster_v _ HK.out _ hl2).mono ?_); rintro e w' ⟨rfl, rfl⟩) | (go_at_call 39; (with_reducible refine (reaster_v _ _).mono ?_); rintro e w' ⟨rfl, rfl⟩))
          go_round
          case rel => exact ⟨2, by omega, by go_num⟩
          case measure => simp [intOf]
        · go_wp2_with fail
          refine (sane_any _ (hok.below hB2)).mono ?_
          rintro e w3 ⟨rfl, hw3⟩
          have hB3 := hB2.trans (hw3.mono hB2.size)
          clear hw3
          go_wp2_with fail
          go_ret
          exact ⟨rfl, hB3⟩

set_option maxRecDepth 100000 in
set_option maxHeartbeats 16000000 in
theorem days_walk (p : Option Addr) (len cap : Nat) (zs : List Int) (y k d n : Int) (hy : Fits y) (hk : Fits k) (hn : Fits n) (w : World) (hr : IsRow w p len cap zs) (hl : len ≤ 9223372036854775807) (hok : OKC w) :
    Calls Tryd.prog 4 #[.slice p len cap, .int .i64 y, .int .i64 k, .int .i64 d, .int .i64 n] w fun e w' => e = .returned (.bool true) ∧ Below w.heap.size w w' := by
  have T0 := tape_new hr hl 63
  have HN := Lib.hid hn
  have HY := Lib.hid hy
  have HK := Lib.hid hk
  clear hr hn hy hk
  go_enter Tryd.func4, Tryd.ntmps4
  go_wp2_with fail
  refine (gnew_any _ _ _ _).mono ?_
  rintro e w' ⟨rfl, rfl⟩
  have B0 : Below w.heap.size w (w.alloc (.cells #[.slice p len cap, .int .i64 0] 63)) := Below.alloc (Below.refl _ _) (Nat.le_refl _) _
  have HT := Lib.hid T0
  clear T0
  go_wp2_with fail
  go_loopw [12] (fun z wr => ∃ i : Nat, i ≤ 4 ∧ z = .int .i64 i ∧ TapeAt w.heap.size wr ∧ Below w.heap.size w wr) (fun z _ => 4 - (intOf z).toNat)
  case atStart => exact ⟨0, by omega, rfl, HT.out, B0⟩
  case round =>
    clear HT B0
    obtain ⟨i, hi, rfl, T, B⟩ := hrel
    by_cases hlt : i < 4
    · have hlt0 : decide ((i : Int) < 4) = true := decide_eq_true (by omega)
      have HB := Lib.hid B
      clear B
      go_wp2_with fail
      refine (next_any w.heap.size 232 (by omega) (by omega) _ T).mono ?_
      rintro e w1 ⟨v1, rfl, a0, a1, T1, O1⟩
      go_wp2_with fail
      refine (next_any w.heap.size 14 (by omega) (by omega) _ T1).mono ?_
      rintro e w2 ⟨v2, rfl, b0, b1, T2, O2⟩
      go_wp2_with fail
      refine (next_any w.heap.size 33 (by omega) (by omega) _ T2).mono ?_
      rintro e w3 ⟨v3, rfl, c0, c1, T3, O3⟩
      go_wp2_with fail
      refine (tday_any w.heap.size _ T3).mono ?_
      rintro e w4 ⟨x, rfl, d0, d1, T4, O4⟩
      go_wp2_with fail
      refine (next_any w.heap.size 60 (by omega) (by omega) _ T4).mono ?_
      rintro e w5 ⟨v5, rfl, e0, e1, T5, O5⟩
      go_wp2_with fail
      refine (next_any w.heap.size 6000 (by omega) (by omega) _ T5).mono ?_
      rintro e w6 ⟨v6, rfl, f0, f1, T6, O6⟩
      have O := ((((O1.trans O2).trans O3).trans O4).trans O5).trans O6
      clear O1 O2 O3 O4 O5 O6 T T1 T2 T3 T4 T5
      go_wp2_with fail
      refine (pick_any w.heap.size w6.heap.size [n, v5 - 30, v6 - 3000] (by simp) (by simp) (by have := T6.lt; omega) _ (T6.alloc _) (three w6 _ _ _ _)).mono ?_
      rintro e w7 ⟨q, rfl, m7, T7, O7⟩
      have B7 := HB.out.trans (((O.alloc (.cells #[.int .i64 n, .int .i64 (v5 - 30), .int .i64 (v6 - 3000)] 3)).trans O7).below (Nat.le_refl _) HB.out.size)
      have HL := hok.lg.below B7
      have TQ := Lib.hid T7
      have BQ := Lib.hid B7
      clear m7 T7 O7 O T6 B7 HB
      by_cases h3 : i = 3
      · subst h3
        have FY := HY
        have FM := HK
        go_wp2_with (first | (go_at_call 22; (with_reducible refine (cday_v _ _ _ FY.out FM.out _ HL).mono ?_); rintro e w' ⟨rfl, rfl⟩) | (go_at_call 23; (with_reducible refine (rday_v _ _ _ _).mono ?_); rintro e w' ⟨rfl, rfl⟩))
        refine (cdate_r _ _ HL).mono ?_
        rintro e w' ⟨a1, a2, a3, a4, rfl, hA, rfl⟩
        have HA := Lib.hid hA
        clear hA
        go_wp2_with fail
        refine (rdate_r _ _).mono ?_
        rintro e w' ⟨a1', a2', a3', a4', rfl, hA', rfl⟩
        obtain ⟨r1, r2, r3, r4⟩ := HA.out.uniq hA'
        subst r1 r2 r3 r4
        clear hA' HA
        go_wp2_with fail
        refine (cweek_r _ _).mono ?_
        rintro e w' ⟨b1, b2, b3, rfl, hA, rfl⟩
        have HA := Lib.hid hA
        clear hA
        go_wp2_with fail
        refine (rweek_r _ _).mono ?_
        rintro e w' ⟨b1', b2', b3', rfl, hA', rfl⟩
        obtain ⟨r1, r2, r3⟩ := HA.out.uniq hA'
        subst r1 r2 r3
        clear hA' HA
        go_wp2_with fail
        refine (cadd_r _ _ _ HL).mono ?_
        rintro e w' ⟨c1, c2, rfl, hA, rfl⟩
        have HA := Lib.hid hA
        clear hA
        go_wp2_with fail
        refine (radd_r _ _ _).mono ?_
        rintro e w' ⟨c1', c2', rfl, hA', rfl⟩
        obtain ⟨r1, r2⟩ := HA.out.uniq hA'
        subst r1 r2
        clear hA' HA
        go_wp2_with (first | (go_at_call 30; (with_reducible refine (cwd_v _ _).mono ?_); rintro e w' ⟨rfl, rfl⟩) | (go_at_call 31; (with_reducible refine (rwd_v _ _).mono ?_); rintro e w' ⟨rfl, rfl⟩))
        refine (cmonth_r _ _ HL).mono ?_
        rintro e w' ⟨e1, rfl, hA, rfl⟩
        have HA := Lib.hid hA
        clear hA
        go_wp2_with fail
        refine (rmonth_r _ _).mono ?_
        rintro e w' ⟨e1', rfl, hA', rfl⟩
        obtain rfl := HA.out.uniq hA'
        clear hA' HA
        go_wp2_with fail
        go_roundw
        case rel => exact ⟨3 + 1, by omega, by go_num, TQ.out, BQ.out⟩
        case measure => simp [intOf]

      · have h3' : ((i : Int) == 3) = false := by simp; omega
        have FY : Hid (Fits (1970 + v1 - 1)) := Lib.hid ⟨by omega, by omega⟩
        have FM : Hid (Fits v2) := Lib.hid ⟨by omega, by omega⟩
        go_wp2_with (first | (go_at_call 22; (with_reducible refine (cday_v _ _ _ FY.out FM.out _ HL).mono ?_); rintro e w' ⟨rfl, rfl⟩) | (go_at_call 23; (with_reducible refine (rday_v _ _ _ _).mono ?_); rintro e w' ⟨rfl, rfl⟩))
        refine (cdate_r _ _ HL).mono ?_
        rintro e w' ⟨a1, a2, a3, a4, rfl, hA, rfl⟩
        have HA := Lib.hid hA
        clear hA
        go_wp2_with fail
        refine (rdate_r _ _).mono ?_
        rintro e w' ⟨a1', a2', a3', a4', rfl, hA', rfl⟩
        obtain ⟨r1, r2, r3, r4⟩ := HA.out.uniq hA'
        subst r1 r2 r3 r4
        clear hA' HA
        go_wp2_with fail
        refine (cweek_r _ _).mono ?_
        rintro e w' ⟨b1, b2, b3, rfl, hA, rfl⟩
        have HA := Lib.hid hA
        clear hA
        go_wp2_with fail
        refine (rweek_r _ _).mono ?_
        rintro e w' ⟨b1', b2', b3', rfl, hA', rfl⟩
        obtain ⟨r1, r2, r3⟩ := HA.out.uniq hA'
        subst r1 r2 r3
        clear hA' HA
        go_wp2_with fail
        refine (cadd_r _ _ _ HL).mono ?_
        rintro e w' ⟨c1, c2, rfl, hA, rfl⟩
        have HA := Lib.hid hA
        clear hA
        go_wp2_with fail
        refine (radd_r _ _ _).mono ?_
        rintro e w' ⟨c1', c2', rfl, hA', rfl⟩
        obtain ⟨r1, r2⟩ := HA.out.uniq hA'
        subst r1 r2
        clear hA' HA
        go_wp2_with (first | (go_at_call 30; (with_reducible refine (cwd_v _ _).mono ?_); rintro e w' ⟨rfl, rfl⟩) | (go_at_call 31; (with_reducible refine (rwd_v _ _).mono ?_); rintro e w' ⟨rfl, rfl⟩))
        refine (cmonth_r _ _ HL).mono ?_
        rintro e w' ⟨e1, rfl, hA, rfl⟩
        have HA := Lib.hid hA
        clear hA
        go_wp2_with fail
        refine (rmonth_r _ _).mono ?_
        rintro e w' ⟨e1', rfl, hA', rfl⟩
        obtain rfl := HA.out.uniq hA'
        clear hA' HA
        go_wp2_with fail
        go_roundw
        case rel => exact ⟨i + 1, by omega, by go_num, TQ.out, BQ.out⟩
        case measure => simp [intOf]; omega

    · obtain rfl : i = 4 := by omega
      have B' := B
      go_wp2_with fail
      refine (sane_any _ (hok.below B)).mono ?_
      rintro e w3 ⟨rfl, hw3⟩
      have hB3 := B'.trans (hw3.mono B'.size)
      clear hw3 B B'
      go_wp2_with fail
      go_ret
      exact ⟨rfl, hB3⟩
end Go.Proofs.YtfoocingingpcaaDoor
