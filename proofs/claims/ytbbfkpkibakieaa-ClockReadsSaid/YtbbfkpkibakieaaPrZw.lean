/-
  Layer 4 (clock): the reference: contracts of Offset, Local, First, Begin, Day at any zone: they give what the program gives. Conditions: the zone's changes lie in their cells; the arguments fit their kinds.
-/
import Derived.Test.YtbbfkpkibakieaaPrZv
import Derived.Test.YtbbfkpkibakieaaPrLawDays
namespace Go.Proofs.Ytbbfkpkibakieaa
open Go Go.RowKit Go.Lib

set_option maxRecDepth 100000 in
set_option maxHeartbeats 1000000 in
theorem roffset_any (off : Int) (a : Option Addr) (n cap : Nat) (cs : List (Int × Int)) (t : Int) (hn : n ≤ 9223372036854775807) (w : World) (hr : ChRow w w.heap.size a n cs) :
    Calls Try.prog 27 #[.agg #[.int .i64 off, .slice a n cap], .int .i64 t] w (Two2 (oV off cs t) (vAE off cs t) w) := by
  have R0 := RZ.new (off := off) (cap := cap) hr
  have z0 := R0.box.c0
  have z1 := R0.box.c1
  have C := Lib.hid (rvalid_any off a n cap cs hn)
  by_cases hv : vE off cs = 0
  · rw [hv] at C
    by_cases ht : t < 0 ∨ 120968639 < t
    · have e1 : vAE off cs t = 2 := by unfold vAE; rw [if_pos hv, if_pos ht]
      have e2 : oV off cs t = 0 := by unfold oV; rw [if_neg (by omega)]
      have H1 := Lib.hid e1
      have H2 := Lib.hid e2
      clear e1 e2 hv
      go_enter Try.func27, Try.ntmps27
      go_wp2_with fail
      refine (C.out _ R0.row).mono ?_
      rintro e w1 ⟨rfl, hw1⟩
      have R1 := R0.step hw1
      go_wp2_with (go_at_call 38; (with_reducible refine (rins_no _ ht _).mono ?_); rintro e w' ⟨rfl, rfl⟩)
      go_ret2
      exact ⟨ret2I H2.out.symm H1.out.symm, R1.below⟩
    · have e1 : vAE off cs t = 0 := by unfold vAE; rw [if_pos hv, if_neg ht]
      have e2 : oV off cs t = offV t (spL off cs) := by unfold oV; rw [if_pos e1]
      have D := Lib.hid (rshift_any off a n cap cs t (by have := vE_len hv; have := hr.1; omega))
      rw [shR_ok hv (by omega) (by omega), ← e2] at D
      have H1 := Lib.hid e1
      have t0 : 0 ≤ t := by omega
      have t1 : t ≤ 120968639 := by omega
      clear e1 e2 hv ht
      generalize oV off cs t = o at *
      go_enter Try.func27, Try.ntmps27
      go_wp2_with fail
      refine (C.out _ R0.row).mono ?_
      rintro e w1 ⟨rfl, hw1⟩
      have R1 := R0.step hw1
      clear z0 z1
      have z0 := R1.box.c0
      have z1 := R1.box.c1
      go_wp2_with (go_at_call 38; (with_reducible refine (rins_yes _ t0 t1 _).mono ?_); rintro e w' ⟨rfl, rfl⟩)
      refine (D.out _ R1.row).mono ?_
      rintro e w2 ⟨rfl, hw2⟩
      have R2 := R1.step hw2
      go_wp2
      go_ret2
      exact ⟨ret2I rfl H1.out.symm, R2.below⟩
  · have e1 : vAE off cs t = vE off cs := by unfold vAE; rw [if_neg hv]
    have e2 : oV off cs t = 0 := by unfold oV; rw [e1, if_neg hv]
    have H1 := Lib.hid e1
    have H2 := Lib.hid e2
    clear e1 e2
    generalize vE off cs = v at *
    have hb : (v == 0) = false := by simp [hv]
    clear hv
    go_enter Try.func27, Try.ntmps27
    go_wp2_with fail
    refine (C.out _ R0.row).mono ?_
    rintro e w1 ⟨rfl, hw1⟩
    have R1 := R0.step hw1
    go_wp2
    go_ret2
    exact ⟨ret2I H2.out.symm H1.out.symm, R1.below⟩

set_option maxRecDepth 100000 in
set_option maxHeartbeats 1000000 in
theorem rlocal_any (off : Int) (a : Option Addr) (n cap : Nat) (cs : List (Int × Int)) (t : Int) (hn : n ≤ 9223372036854775807) (w : World) (hr : ChRow w w.heap.size a n cs) :
    Calls Try.prog 28 #[.agg #[.int .i64 off, .slice a n cap], .int .i64 t] w (Two2 (lV off cs t) (vAE off cs t) w) := by
  have R0 := RZ.new (off := off) (cap := cap) hr
  have z0 := R0.box.c0
  have z1 := R0.box.c1
  have C := Lib.hid (roffset_any off a n cap cs t hn)
  by_cases h : vAE off cs t = 0
  · obtain ⟨h1, h2, h3⟩ := vAE_v h
    obtain ⟨b0, b1⟩ := offV_bd (desc_spL off cs h1) t
    have ho : oV off cs t = offV t (spL off cs) := by unfold oV; rw [if_pos h]
    have hl : lV off cs t = t + offV t (spL off cs) := by unfold lV; rw [if_pos h]
    rw [ho, h] at C
    have HL := Lib.hid hl
    have HV := Lib.hid h
    generalize offV t (spL off cs) = o at *
    clear ho hl h h1
    go_enter Try.func28, Try.ntmps28
    go_wp2_with fail
    refine (C.out _ R0.row).mono ?_
    rintro e w1 ⟨rfl, hw1⟩
    have R1 := R0.step hw1
    go_wp2
    go_ret2
    exact ⟨ret2I HL.out.symm HV.out.symm, R1.below⟩
  · have hl : lV off cs t = 0 := by unfold lV; rw [if_neg h]
    have HL := Lib.hid hl
    obtain ⟨v, hv'⟩ : ∃ v, vAE off cs t = v := ⟨_, rfl⟩
    have ho : oV off cs t = 0 := by unfold oV; rw [if_neg h]
    rw [hv', ho] at C
    rw [hv'] at h
    have HV := Lib.hid hv'
    have hb : (v == 0) = false := by simp [h]
    clear hl hv' ho h
    go_enter Try.func28, Try.ntmps28
    go_wp2_with fail
    refine (C.out _ R0.row).mono ?_
    rintro e w1 ⟨rfl, hw1⟩
    have R1 := R0.step hw1
    go_wp2
    go_ret2
    exact ⟨ret2I HL.out.symm HV.out.symm, R1.below⟩

set_option maxRecDepth 100000 in
set_option maxHeartbeats 1000000 in
theorem rFirst_any (off : Int) (a : Option Addr) (n cap : Nat) (cs : List (Int × Int)) (t : Int) (hn : n ≤ 9223372036854775807) (t0 : -9223372036854775808 ≤ t) (t1 : t ≤ 9223372036854775807) (w : World) (hr : ChRow w w.heap.size a n cs) :
    Calls Try.prog 31 #[.agg #[.int .i64 off, .slice a n cap], .int .i64 t] w (Two2 (f1V off cs t) (vE off cs) w) := by
  have R0 := RZ.new (off := off) (cap := cap) hr
  have z0 := R0.box.c0
  have z1 := R0.box.c1
  have C := Lib.hid (rvalid_any off a n cap cs hn)
  by_cases hv : vE off cs = 0
  · have D := Lib.hid (rfirst_any off a n cap cs t t0 t1 hv)
    have e1 : f1V off cs t = fV (nearT t) (spL off cs) := by unfold f1V; rw [if_pos hv]
    rw [← e1] at D
    rw [hv] at C
    have HV := Lib.hid hv
    clear e1 hv
    generalize f1V off cs t = o at *
    go_enter Try.func31, Try.ntmps31
    go_wp2_with fail
    refine (C.out _ R0.row).mono ?_
    rintro e w1 ⟨rfl, hw1⟩
    have R1 := R0.step hw1
    clear z0 z1
    have z0 := R1.box.c0
    have z1 := R1.box.c1
    go_wp2_with fail
    refine (D.out _ R1.row).mono ?_
    rintro e w2 ⟨rfl, hw2⟩
    have R2 := R1.step hw2
    go_wp2
    go_ret2
    exact ⟨ret2I rfl HV.out.symm, R2.below⟩
  · have e2 : f1V off cs t = 0 := by unfold f1V; rw [if_neg hv]
    have H2 := Lib.hid e2
    clear e2
    generalize vE off cs = v at *
    have hb : (v == 0) = false := by simp [hv]
    clear hv
    go_enter Try.func31, Try.ntmps31
    go_wp2_with fail
    refine (C.out _ R0.row).mono ?_
    rintro e w1 ⟨rfl, hw1⟩
    have R1 := R0.step hw1
    go_wp2
    go_ret2
    exact ⟨ret2I H2.out.symm rfl, R1.below⟩

set_option maxRecDepth 100000 in
set_option maxHeartbeats 1000000 in
theorem rbeg_any (off : Int) (a : Option Addr) (n cap : Nat) (cs : List (Int × Int)) (t : Int) (hv : vE off cs = 0) (t0 : 0 ≤ t) (t1 : t ≤ 84006) (w : World) (hr : ChRow w w.heap.size a n cs) :
    Calls Try.prog 43 #[.agg #[.int .i64 off, .slice a n cap], .int .i64 t] w (fun e w' => e = .returned (.int .i64 (bV off cs t)) ∧ Below w.heap.size w w') := by
  have R0 := RZ.new (off := off) (cap := cap) hr
  have z0 := R0.box.c0
  have z1 := R0.box.c1
  have hV : bV off cs t = if bE off cs t = 0 then (if t = 0 then 0 else if t = 84006 then END else fV (nearT (t * 1440)) (spL off cs)) else 0 := rfl
  rw [if_pos (bE_ok hv t0 t1)] at hV
  have D := Lib.hid (rfirst_any off a n cap cs (t * 1440) (by omega) (by omega) hv)
  generalize fV (nearT (t * 1440)) (spL off cs) = f at *
  by_cases h0 : t = 0
  · rw [if_pos h0] at hV
    have HV := Lib.hid hV
    have hb : (t == 0) = true := by simp [h0]
    clear hV h0
    go_enter Try.func43, Try.ntmps43
    go_wp2
    go_ret
    exact ⟨retI HV.out.symm, R0.below⟩
  · rw [if_neg h0] at hV
    have hb : (t == 0) = false := by simp [h0]
    clear h0
    by_cases h1 : t = 84006
    · rw [if_pos h1] at hV
      have HV := Lib.hid hV
      have hb1 : (t == 84006) = true := by simp [h1]
      clear hV h1
      go_enter Try.func43, Try.ntmps43
      go_wp2
      go_ret
      exact ⟨retI HV.out.symm, R0.below⟩
    · rw [if_neg h1] at hV
      have HV := Lib.hid hV
      have hb1 : (t == 84006) = false := by simp [h1]
      clear hV h1
      go_enter Try.func43, Try.ntmps43
      go_wp2_with fail
      refine (D.out _ R0.row).mono ?_
      rintro e w1 ⟨rfl, hw1⟩
      have R1 := R0.step hw1
      go_wp2
      go_ret
      exact ⟨retI HV.out.symm, R1.below⟩

set_option maxRecDepth 100000 in
set_option maxHeartbeats 1000000 in
theorem rBegin_any (off : Int) (a : Option Addr) (n cap : Nat) (cs : List (Int × Int)) (t : Int) (hn : n ≤ 9223372036854775807) (w : World) (hr : ChRow w w.heap.size a n cs) :
    Calls Try.prog 32 #[.agg #[.int .i64 off, .slice a n cap], .int .i64 t] w (Two2 (bV off cs t) (bE off cs t) w) := by
  have R0 := RZ.new (off := off) (cap := cap) hr
  have z0 := R0.box.c0
  have z1 := R0.box.c1
  have C := Lib.hid (rvalid_any off a n cap cs hn)
  have hE : bE off cs t = if vE off cs = 0 then (if t < 0 ∨ 84006 < t then 2 else 0) else vE off cs := rfl
  have hV : bV off cs t = if bE off cs t = 0 then (if t = 0 then 0 else if t = 84006 then END else fV (nearT (t * 1440)) (spL off cs)) else 0 := rfl
  by_cases h : vE off cs = 0
  · rw [if_pos h] at hE
    rw [h] at C
    by_cases hd : t < 0 ∨ 84006 < t
    · rw [if_pos hd] at hE
      rw [hE, if_neg (by omega)] at hV
      have HE := Lib.hid hE
      have HV := Lib.hid hV
      clear hE hV h
      rcases hd with hd | hd
      · have hd1 : t < 0 := hd
        go_enter Try.func32, Try.ntmps32
        go_wp2_with fail
        refine (C.out _ R0.row).mono ?_
        rintro e w1 ⟨rfl, hw1⟩
        have R1 := R0.step hw1
        go_wp2
        go_ret2
        exact ⟨ret2I HV.out.symm HE.out.symm, R1.below⟩
      · have hd1 : ¬ t < 0 := by omega
        go_enter Try.func32, Try.ntmps32
        go_wp2_with fail
        refine (C.out _ R0.row).mono ?_
        rintro e w1 ⟨rfl, hw1⟩
        have R1 := R0.step hw1
        go_wp2
        go_ret2
        exact ⟨ret2I HV.out.symm HE.out.symm, R1.below⟩
    · rw [if_neg hd] at hE
      have d0 : 0 ≤ t := by omega
      have d1 : t ≤ 84006 := by omega
      have D := Lib.hid (rbeg_any off a n cap cs t h d0 d1)
      have HE := Lib.hid hE
      clear hE hV hd h
      generalize bV off cs t = f at *
      go_enter Try.func32, Try.ntmps32
      go_wp2_with fail
      refine (C.out _ R0.row).mono ?_
      rintro e w1 ⟨rfl, hw1⟩
      have R1 := R0.step hw1
      clear z0 z1
      have z0 := R1.box.c0
      have z1 := R1.box.c1
      go_wp2_with fail
      refine (D.out _ R1.row).mono ?_
      rintro e w2 ⟨rfl, hw2⟩
      have R2 := R1.step hw2
      go_wp2
      go_ret2
      exact ⟨ret2I rfl HE.out.symm, R2.below⟩
  · rw [if_neg h] at hE
    rw [hE, if_neg h] at hV
    have HV := Lib.hid hV
    have HE := Lib.hid hE
    clear hE hV
    generalize vE off cs = v at *
    have hb : (v == 0) = false := by simp [h]
    clear h
    go_enter Try.func32, Try.ntmps32
    go_wp2_with fail
    refine (C.out _ R0.row).mono ?_
    rintro e w1 ⟨rfl, hw1⟩
    have R1 := R0.step hw1
    go_wp2
    go_ret2
    exact ⟨ret2I HV.out.symm HE.out.symm, R1.below⟩

/-- What the search for a day needs. -/
theorem day_above {off : Int} {cs : List (Int × Int)} {t D : Int} (h : vE off cs = 0) (t0 : 0 ≤ t) (t1 : t ≤ 120968639) (d0 : dV off cs t < D) (d1 : D ≤ 84005) : t < bV off cs D := by
  obtain ⟨p0, p1⟩ := dV_bd (off := off) (cs := cs) (t := t) h t0 t1
  have e1 := dV_ok (off := off) (cs := cs) (t := t) h t0 t1
  have := begin_le (off := off) (cs := cs) (t := t) (D := D) h t0 t1 (by omega) d1
  rcases (by omega : t < bV off cs D ∨ bV off cs D ≤ t) with k | k
  · exact k
  · have := this.1 k
    rw [e1] at d0
    unfold dyT at d0
    split at d0 <;> omega
theorem day_start {off : Int} {cs : List (Int × Int)} {t : Int} (h : vE off cs = 0) (t0 : 0 ≤ t) (t1 : t ≤ 120968639) : dV off cs t ≤ t / 1440 + 2 := by
  rw [dV_ok h t0 t1]
  obtain ⟨b1, b2, b3⟩ := gV_spec (off := off) (cs := cs) t h
  have hb := offV_bd (desc_spL off cs h)
  have : gV t (spL off cs) ≤ t + 840 := by
    rcases b3 with b3 | ⟨u, u0, u1, u2, u3⟩
    · omega
    · have := hb u; omega
  unfold dyT; split <;> omega
set_option maxRecDepth 100000 in
set_option maxHeartbeats 1000000 in
theorem rDay_any (off : Int) (a : Option Addr) (n cap : Nat) (cs : List (Int × Int)) (t : Int) (hn : n ≤ 9223372036854775807) (w : World) (hr : ChRow w w.heap.size a n cs) :
    Calls Try.prog 33 #[.agg #[.int .i64 off, .slice a n cap], .int .i64 t] w (Two2 (dV off cs t) (vAE off cs t) w) := by
  have R0 := RZ.new (off := off) (cap := cap) hr
  have z0 := R0.box.c0
  have z1 := R0.box.c1
  have C := Lib.hid (roffset_any off a n cap cs t hn)
  by_cases h : vAE off cs t = 0
  · obtain ⟨h1, h2, h3⟩ := vAE_v h
    have HB := Lib.hid (fun d d0 d1 => rbeg_any off a n cap cs d h1 d0 d1)
    have HA := Lib.hid (fun D d0 d1 => day_above (off := off) (cs := cs) (t := t) (D := D) h1 h2 h3 d0 d1)
    have hs := day_start (off := off) (cs := cs) (t := t) h1 h2 h3
    obtain ⟨p0, p1⟩ := dV_bd (off := off) (cs := cs) (t := t) h1 h2 h3
    obtain ⟨q0, _⟩ := day_has (off := off) (cs := cs) (t := t) h1 h2 h3
    rw [h] at C
    have HV := Lib.hid h
    clear h h1
    generalize oV off cs t = o at *
    obtain ⟨dd, hdd⟩ : ∃ dd, dV off cs t = dd := ⟨_, rfl⟩
    rw [hdd] at hs p0 p1 q0 HA
    have HD := Lib.hid hdd
    clear hdd
    have hmin : dd ≤ min (t / 1440 + 2) 84005 ∧ min (t / 1440 + 2) 84005 ≤ 84005 := by omega
    obtain ⟨m0, m1⟩ := hmin
    have ht0 : 0 ≤ t / 1440 := by omega
    go_enter Try.func33, Try.ntmps33
    go_wp2_with fail
    refine (C.out _ R0.row).mono ?_
    rintro e w1 ⟨rfl, hw1⟩
    have R1 := R0.step hw1
    clear z0 z1 R0 hw1
    go_wp2_with fail
    go_loopw [8] (fun iv wr => ∃ d : Int, iv = .int .i64 d ∧ dd ≤ d ∧ d ≤ 84005 ∧ Hid (RZ w off a n cap cs wr)) (fun iv _ => (Go.RowKit.intOf iv - dd).toNat)
    case atStart => exact ⟨_, rfl, m0, m1, Lib.hid R1⟩
    case round =>
      obtain ⟨d, rfl, d0, d1, HR⟩ := hrel
      clear R1 m0 m1 hs
      have z0 := HR.out.box.c0
      have z1 := HR.out.box.c1
      by_cases hd : dd < d
      · have hx := HA.out d hd d1
        have D := Lib.hid (HB.out d (by omega) (by omega))
        generalize bV off cs d = bb at *
        go_wp2_with fail
        refine (D.out _ HR.out.row).mono ?_
        rintro e w2 ⟨rfl, hw2⟩
        have R2 := HR.out.step hw2
        go_wp2_with fail
        go_roundw
        case rel => exact ⟨d - 1, rfl, by omega, by omega, Lib.hid R2⟩
        case measure => simp [Go.RowKit.intOf]; omega
      · obtain rfl : d = dd := by omega
        have D := Lib.hid (HB.out d (by omega) (by omega))
        generalize bV off cs d = bb at *
        go_wp2_with fail
        refine (D.out _ HR.out.row).mono ?_
        rintro e w2 ⟨rfl, hw2⟩
        have R2 := HR.out.step hw2
        go_wp2
        go_ret2
        exact ⟨ret2I HD.out.symm HV.out.symm, R2.below⟩
  · have hl : dV off cs t = 0 := by unfold dV; rw [if_neg h]
    have HL := Lib.hid hl
    obtain ⟨v, hv'⟩ : ∃ v, vAE off cs t = v := ⟨_, rfl⟩
    rw [hv'] at C h
    have HV := Lib.hid hv'
    have hb : (v == 0) = false := by simp [h]
    generalize oV off cs t = o at *
    clear hl hv' h
    go_enter Try.func33, Try.ntmps33
    go_wp2_with fail
    refine (C.out _ R0.row).mono ?_
    rintro e w1 ⟨rfl, hw1⟩
    have R1 := R0.step hw1
    go_wp2
    go_ret2
    exact ⟨ret2I HL.out.symm HV.out.symm, R1.below⟩
end Go.Proofs.Ytbbfkpkibakieaa
