/-
  ClockDays returns true: each instant belongs to exactly one day, between its begin and that of the next day, and days never go back. Condition: the tape's cells hold ints; the number fits its kind.
-/
import Derived.Test.YtbbfkpkibakieaaPrZk2
namespace Go.Proofs.Ytbbfkpkibakieaa
open Go Go.RowKit Go.Lib Go.Proofs.Ytbbfkpkibakieaa.Tp

theorem gV_spec {off : Int} {cs : List (Int × Int)} (t : Int) (h : vE off cs = 0) :
    (0 ≤ gV t (spL off cs)) ∧ (∀ u, 0 ≤ u → u < END → u ≤ t → u + offV u (spL off cs) ≤ gV t (spL off cs)) ∧ (gV t (spL off cs) = 0 ∨ ∃ u, 0 ≤ u ∧ u < END ∧ u ≤ t ∧ gV t (spL off cs) = u + offV u (spL off cs)) := gG_spec t _ END 0 (desc_spL off cs h)
theorem gV_mono {off : Int} {cs : List (Int × Int)} {t t' : Int} (h : vE off cs = 0) (ht : t ≤ t') : gV t (spL off cs) ≤ gV t' (spL off cs) := by
  obtain ⟨_, _, a3⟩ := gV_spec t h
  obtain ⟨b1, b2, _⟩ := gV_spec t' h
  rcases a3 with a3 | ⟨u, u0, u1, u2, u3⟩
  · omega
  · have := b2 u u0 u1 (by omega); omega
/-- A day has begun exactly if some instant until t shows its first minute or a later one. -/
theorem begin_le {off : Int} {cs : List (Int × Int)} {t D : Int} (h : vE off cs = 0) (t0 : 0 ≤ t) (t1 : t ≤ 120968639) (d0 : 1 ≤ D) (d1 : D ≤ 84005) : bV off cs D ≤ t ↔ 1440 * D ≤ gV t (spL off cs) := by
  rw [bV_in h (by omega) d1]
  obtain ⟨a1, a2, a3⟩ := fV_spec (D * 1440) h
  obtain ⟨b1, b2, b3⟩ := gV_spec t h
  generalize fV (D * 1440) (spL off cs) = x at *
  unfold END at *
  constructor
  · intro hx
    obtain ⟨c1, c2⟩ := a1 (by omega)
    have := b2 x c1 (by omega) hx
    omega
  · intro hg
    rcases (by omega : x ≤ t ∨ t < x) with c | c
    · exact c
    · rcases b3 with b3 | ⟨u, u0, u1, u2, u3⟩
      · omega
      · have := a3 u u0 u1 (by omega); omega
theorem begin_zero {off : Int} {cs : List (Int × Int)} (h : vE off cs = 0) : bV off cs 0 = 0 := by
  unfold bV; rw [if_pos (bE_ok h (by omega) (by omega)), if_pos rfl]
theorem begin_end {off : Int} {cs : List (Int × Int)} (h : vE off cs = 0) : bV off cs 84006 = 120968640 := by
  unfold bV; rw [if_pos (bE_ok h (by omega) (by omega)), if_neg (by omega), if_pos rfl]
theorem dV_ok {off : Int} {cs : List (Int × Int)} {t : Int} (h : vE off cs = 0) (t0 : 0 ≤ t) (t1 : t ≤ 120968639) : dV off cs t = dyT (gV t (spL off cs)) := by unfold dV; rw [if_pos (vAE_ok h t0 t1)]
theorem dV_bd {off : Int} {cs : List (Int × Int)} {t : Int} (h : vE off cs = 0) (t0 : 0 ≤ t) (t1 : t ≤ 120968639) : 0 ≤ dV off cs t ∧ dV off cs t ≤ 84005 := by
  rw [dV_ok h t0 t1]
  obtain ⟨b1, _⟩ := gV_spec t h
  unfold dyT; split <;> omega
/-- The day of t has begun at t, and the next one has not. -/
theorem day_has {off : Int} {cs : List (Int × Int)} {t : Int} (h : vE off cs = 0) (t0 : 0 ≤ t) (t1 : t ≤ 120968639) : bV off cs (dV off cs t) ≤ t ∧ t < bV off cs (dV off cs t + 1) := by
  obtain ⟨d0, d1⟩ := dV_bd h t0 t1
  obtain ⟨b1, _⟩ := gV_spec t h
  have e := dV_ok (off := off) (cs := cs) h t0 t1
  generalize dV off cs t = d at *
  unfold dyT at e
  constructor
  · rcases (by omega : d = 0 ∨ 1 ≤ d) with rfl | c
    · rw [begin_zero h]; exact t0
    · rw [begin_le h t0 t1 c d1]; split at e <;> omega
  · rcases (by omega : d = 84005 ∨ d + 1 ≤ 84005) with rfl | c
    · rw [show (84005 : Int) + 1 = 84006 by omega, begin_end h]; omega
    · have := begin_le (off := off) (cs := cs) (t := t) (D := d + 1) h t0 t1 (by omega) c
      rcases (by omega : t < bV off cs (d + 1) ∨ bV off cs (d + 1) ≤ t) with k | k
      · exact k
      · have := this.1 k
        split at e <;> omega
theorem days_law {off : Int} {cs : List (Int × Int)} {t : Int} (h : vE off cs = 0) (t0 : 0 ≤ t) (t1 : t + 1 ≤ 120968639) :
    (dV off cs (t + 1) = dV off cs t ∧ t + 1 < bV off cs (dV off cs t + 1)) ∨ (dV off cs t < dV off cs (t + 1) ∧ t + 1 = bV off cs (dV off cs t + 1)) := by
  obtain ⟨a1, a2⟩ := day_has (off := off) (cs := cs) (t := t) h t0 (by omega)
  obtain ⟨c1, c2⟩ := day_has (off := off) (cs := cs) (t := t + 1) h (by omega) t1
  obtain ⟨p0, p1⟩ := dV_bd (off := off) (cs := cs) (t := t) h t0 (by omega)
  obtain ⟨q0, q1⟩ := dV_bd (off := off) (cs := cs) (t := t + 1) h (by omega) t1
  have m := gV_mono (off := off) (cs := cs) (t := t) (t' := t + 1) h (by omega)
  have e1 := dV_ok (off := off) (cs := cs) (t := t) h t0 (by omega)
  have e2 := dV_ok (off := off) (cs := cs) (t := t + 1) h (by omega) t1
  have hle : dV off cs t ≤ dV off cs (t + 1) := by
    rw [e1, e2]; unfold dyT; split <;> split <;> omega
  rcases (by omega : dV off cs (t + 1) = dV off cs t ∨ dV off cs t < dV off cs (t + 1)) with k | k
  · left; rw [k] at c2; exact ⟨k, c2⟩
  · right
    refine ⟨k, ?_⟩
    have : bV off cs (dV off cs t + 1) ≤ t + 1 := by
      rw [begin_le h (by omega) t1 (by omega) (by omega)]
      have hg : 1440 * dV off cs (t + 1) ≤ gV (t + 1) (spL off cs) := by
        rw [e2]; unfold dyT; split <;> omega
      omega
    omega

set_option maxRecDepth 100000 in
set_option maxHeartbeats 4000000 in
theorem days_walk (a : Option Addr) (len cap : Nat) (zs : List Int) (at_ : Int) (n0 : -9223372036854775808 ≤ at_) (n1 : at_ ≤ 9223372036854775807) (w : World) (hrow : IsRow w a len cap zs) (hl : len ≤ 9223372036854775807) :
    Calls Try.prog 7 #[.slice a len cap, .int .i64 at_] w (RetB true w) := by
  have T0 := tape_new hrow hl 50
  have O0 := (Only.refl w.heap.size w).alloc (.cells #[.slice a len cap, .int .i64 0] 50)
  have hs0 : w.heap.size < (w.alloc (.cells #[.slice a len cap, .int .i64 0] 50)).heap.size := by simp
  go_enter Try.func7, Try.ntmps7
  go_wp2_with fail
  refine (gnew_any _ _ _ _).mono ?_
  rintro e w1 ⟨rfl, hw1⟩
  rw [← hw1] at T0 O0 hs0
  clear hw1
  go_wp2_with fail
  refine (gzone_any w.heap.size _ T0).mono ?_
  rintro e w2 ⟨off, za, zn, zc, cs, rfl, hv, hn, R2, N2, T2, O2⟩
  have K3 := ZK.new (w0 := w) (off := off) (cap := zc) R2 (fun y hy => by have := N2 y hy; omega) T2 (O0.trans O2)
  clear R2 N2 T2 O2 T0 O0
  have HV := Lib.hid hv
  clear hv
  have m0 := modT_lo at_ 120968639 (by omega)
  have m1 := modT_hi at_ 120968639 (by omega)
  have hM := mod_any at_ 120968639 n0 n1 (by omega) (by omega)
  have HM := Lib.hid hM
  clear hM
  generalize modT at_ 120968639 = m at *
  go_wp2_with fail
  refine (HM.out _).mono ?_
  rintro e w3 ⟨rfl, rfl⟩
  go_wp2_with fail
  refine (next_any w.heap.size 3 (by omega) (by omega) _ K3.tape).mono ?_
  rintro e w4 ⟨v4, rfl, a4, b4, T4, O4⟩
  have K4 := K3.step T4 O4
  clear K3 T4 O4
  by_cases hc : 0 < v4
  · go_wp2_with fail
    refine (gnear_any w.heap.size _ K4.tape).mono ?_
    rintro e w5 ⟨n, rfl, a5, b5, T5, O5⟩
    have K5 := K4.step T5 O5
    clear K4 T5 O5 m0 m1
    have p0 : 0 ≤ n := by omega
    have p1 : n + 1 ≤ 120968639 := by omega
    have hb := day_has (off := off) (cs := cs) HV.out p0 (by omega)
    have hd := dV_bd (off := off) (cs := cs) HV.out p0 (by omega)
    have hx := days_law (off := off) (cs := cs) HV.out p0 p1
    obtain ⟨hb1, hb2⟩ := hb
    obtain ⟨hd1, hd2⟩ := hd
    have C1 := day_any off za zn zc cs n (by omega)
    rw [vAE_ok HV.out (by omega) (by omega)] at C1
    have C2 := begin_any off za zn zc cs (dV off cs n) (by omega)
    rw [bE_ok HV.out (by omega) (by omega)] at C2
    have C3 := begin_any off za zn zc cs (dV off cs n + 1) (by omega)
    rw [bE_ok HV.out (by omega) (by omega)] at C3
    have C4 := day_any off za zn zc cs (n + 1) (by omega)
    rw [vAE_ok HV.out (by omega) (by omega)] at C4
    have H1 := Lib.hid C1
    have H2 := Lib.hid C2
    have H3 := Lib.hid C3
    have H4 := Lib.hid C4
    clear C1 C2 C3 C4
    generalize dV off cs n = d at *
    generalize dV off cs (n + 1) = d2 at *
    generalize bV off cs d = ba at *
    generalize bV off cs (d + 1) = bb at *
    have z0 := K5.box.c0
    have z1 := K5.box.c1
    go_wp2_with fail
    refine (H1.out _ K5.row).mono ?_
    rintro e w6 ⟨rfl, h6⟩
    have K6 := K5.below h6
    clear z0 z1 K5 h6
    have z0 := K6.box.c0
    have z1 := K6.box.c1
    go_wp2_with fail
    refine (H2.out _ K6.row).mono ?_
    rintro e w7 ⟨rfl, h7⟩
    have K7 := K6.below h7
    clear z0 z1 K6 h7
    have z0 := K7.box.c0
    have z1 := K7.box.c1
    go_wp2_with fail
    refine (H3.out _ K7.row).mono ?_
    rintro e w8 ⟨rfl, h8⟩
    have K8 := K7.below h8
    clear z0 z1 K7 h8
    have z0 := K8.box.c0
    have z1 := K8.box.c1
    go_wp2_with fail
    refine (H4.out _ K8.row).mono ?_
    rintro e w9 ⟨rfl, h9⟩
    have K9 := K8.below h9
    clear z0 z1 K8 h9
    rcases hx with ⟨x1, x2⟩ | ⟨x1, x2⟩
    · have t1 : (d2 == d) = true := by simp [x1]
      clear x1
      go_wp2_with fail
      refine (sane_any _).mono ?_
      rintro e w10 ⟨rfl, h10⟩
      have K10 := K9.below h10
      go_wp2
      go_ret
      exact ⟨rfl, K10.fin (Nat.le_refl _)⟩
    · have t1 : (d2 == d) = false := by simp; omega
      have t2 : (n + 1 == bb) = true := by simp [x2]
      clear x2
      go_wp2_with fail
      refine (sane_any _).mono ?_
      rintro e w10 ⟨rfl, h10⟩
      have K10 := K9.below h10
      go_wp2
      go_ret
      exact ⟨rfl, K10.fin (Nat.le_refl _)⟩
  · have p0 : 0 ≤ m := m0
    have p1 : m + 1 ≤ 120968639 := by omega
    have hc2 : v4 ≤ 0 := by omega
    obtain ⟨n, hnm⟩ : ∃ n, n = m := ⟨_, rfl⟩
    subst hnm
    have K5 := K4
    clear K4 m0 m1
    have hb := day_has (off := off) (cs := cs) HV.out p0 (by omega)
    have hd := dV_bd (off := off) (cs := cs) HV.out p0 (by omega)
    have hx := days_law (off := off) (cs := cs) HV.out p0 p1
    obtain ⟨hb1, hb2⟩ := hb
    obtain ⟨hd1, hd2⟩ := hd
    have C1 := day_any off za zn zc cs n (by omega)
    rw [vAE_ok HV.out (by omega) (by omega)] at C1
    have C2 := begin_any off za zn zc cs (dV off cs n) (by omega)
    rw [bE_ok HV.out (by omega) (by omega)] at C2
    have C3 := begin_any off za zn zc cs (dV off cs n + 1) (by omega)
    rw [bE_ok HV.out (by omega) (by omega)] at C3
    have C4 := day_any off za zn zc cs (n + 1) (by omega)
    rw [vAE_ok HV.out (by omega) (by omega)] at C4
    have H1 := Lib.hid C1
    have H2 := Lib.hid C2
    have H3 := Lib.hid C3
    have H4 := Lib.hid C4
    clear C1 C2 C3 C4
    generalize dV off cs n = d at *
    generalize dV off cs (n + 1) = d2 at *
    generalize bV off cs d = ba at *
    generalize bV off cs (d + 1) = bb at *
    have z0 := K5.box.c0
    have z1 := K5.box.c1
    go_wp2_with fail
    refine (H1.out _ K5.row).mono ?_
    rintro e w6 ⟨rfl, h6⟩
    have K6 := K5.below h6
    clear z0 z1 K5 h6
    have z0 := K6.box.c0
    have z1 := K6.box.c1
    go_wp2_with fail
    refine (H2.out _ K6.row).mono ?_
    rintro e w7 ⟨rfl, h7⟩
    have K7 := K6.below h7
    clear z0 z1 K6 h7
    have z0 := K7.box.c0
    have z1 := K7.box.c1
    go_wp2_with fail
    refine (H3.out _ K7.row).mono ?_
    rintro e w8 ⟨rfl, h8⟩
    have K8 := K7.below h8
    clear z0 z1 K7 h8
    have z0 := K8.box.c0
    have z1 := K8.box.c1
    go_wp2_with fail
    refine (H4.out _ K8.row).mono ?_
    rintro e w9 ⟨rfl, h9⟩
    have K9 := K8.below h9
    clear z0 z1 K8 h9
    rcases hx with ⟨x1, x2⟩ | ⟨x1, x2⟩
    · have t1 : (d2 == d) = true := by simp [x1]
      clear x1
      go_wp2_with fail
      refine (sane_any _).mono ?_
      rintro e w10 ⟨rfl, h10⟩
      have K10 := K9.below h10
      go_wp2
      go_ret
      exact ⟨rfl, K10.fin (Nat.le_refl _)⟩
    · have t1 : (d2 == d) = false := by simp; omega
      have t2 : (n + 1 == bb) = true := by simp [x2]
      clear x2
      go_wp2_with fail
      refine (sane_any _).mono ?_
      rintro e w10 ⟨rfl, h10⟩
      have K10 := K9.below h10
      go_wp2
      go_ret
      exact ⟨rfl, K10.fin (Nat.le_refl _)⟩
end Go.Proofs.Ytbbfkpkibakieaa
