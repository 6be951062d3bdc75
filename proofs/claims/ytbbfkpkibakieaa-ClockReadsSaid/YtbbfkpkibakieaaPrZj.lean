/-
  Layer 4 (clock): contracts of Offset, Local, Instants, First, Begin, Day at any zone: the result or the error. Conditions: the zone's changes lie in their cells; the arguments fit their kinds.
-/
import Derived.Test.YtbbfkpkibakieaaPrZi
namespace Go.Proofs.Ytbbfkpkibakieaa
open Go Go.RowKit Go.Lib

theorem row_box {w : World} {a : Option Addr} {n : Nat} {cs : List (Int × Int)} (h : ChRow w w.heap.size a n cs) (o : Obj) : ChRow (w.alloc o) (w.alloc o).heap.size a n cs :=
  (h.below ((Below.refl _ _).alloc (Nat.le_refl _) _)).mono (by simp)
theorem row_more {w w' : World} {a : Option Addr} {n : Nat} {cs : List (Int × Int)} (h : ChRow w w.heap.size a n cs) (hb : Below w.heap.size w w') : ChRow w' w'.heap.size a n cs :=
  (h.below hb).mono hb.size
theorem ret2I {a b c d : Int} (h : a = b) (h' : c = d) : Ending.returned (.tuple #[.int .i64 a, .int .i64 c]) = .returned (.tuple #[.int .i64 b, .int .i64 d]) := by rw [h, h']
/-- Two results and an error: what a call leaves. -/
def Two2 (x e0 : Int) (w : World) (e : Ending) (w' : World) : Prop := e = .returned (.tuple #[.int .i64 x, .int .i64 e0]) ∧ Below w.heap.size w w'
def InsA (zs : List Int) (e0 : Int) (w : World) (e : Ending) (w' : World) : Prop := ∃ v, e = .returned (.tuple #[v, .int .i64 e0]) ∧ w'.ownsRow w.heap.size 3 1 v zs.length (zs.map (Value.int .i64)) ∧ Below w.heap.size w w'

def oV (off : Int) (cs : List (Int × Int)) (t : Int) : Int := if vAE off cs t = 0 then offV t (spL off cs) else 0
def lV (off : Int) (cs : List (Int × Int)) (t : Int) : Int := if vAE off cs t = 0 then t + offV t (spL off cs) else 0
def dV (off : Int) (cs : List (Int × Int)) (t : Int) : Int := if vAE off cs t = 0 then dyT (gV t (spL off cs)) else 0
def f1V (off : Int) (cs : List (Int × Int)) (l : Int) : Int := if vE off cs = 0 then fV (nearT l) (spL off cs) else 0
def iV (off : Int) (cs : List (Int × Int)) (l : Int) : List Int := if vE off cs = 0 then (iL (nearT l) (spL off cs)).reverse else []
def bE (off : Int) (cs : List (Int × Int)) (d : Int) : Int := if vE off cs = 0 then (if d < 0 ∨ 84006 < d then 2 else 0) else vE off cs
def bV (off : Int) (cs : List (Int × Int)) (d : Int) : Int := if bE off cs d = 0 then (if d = 0 then 0 else if d = 84006 then END else fV (nearT (d * 1440)) (spL off cs)) else 0
theorem vAE_v {off : Int} {cs : List (Int × Int)} {t : Int} (h : vAE off cs t = 0) : vE off cs = 0 ∧ 0 ≤ t ∧ t ≤ 120968639 := by
  unfold vAE at h
  split at h
  · split at h
    · cases h
    · exact ⟨by assumption, by omega, by omega⟩
  · exact absurd h (by assumption)

set_option maxRecDepth 100000 in
set_option maxHeartbeats 1000000 in
theorem offset_bad (off : Int) (a : Option Addr) (n cap : Nat) (cs : List (Int × Int)) (t : Int) (hn : n ≤ 9223372036854775807) (w : World) (hr : ChRow w w.heap.size a n cs) (hv : ¬ vAE off cs t = 0) :
    Calls Try.prog 26 #[.agg #[.int .i64 off, .slice a n cap], .int .i64 t] w fun e w' => e = .returned (.tuple #[.int .i64 0, .int .i64 (vAE off cs t)]) ∧ Below w.heap.size w w' := by
  have C := Lib.hid (validAt_any off a n cap cs t hn)
  obtain ⟨v, hv'⟩ : ∃ v, vAE off cs t = v := ⟨_, rfl⟩
  rw [hv'] at C hv
  have HV := Lib.hid hv'
  have hb : (v == 0) = false := by simp [hv]
  have hE := hv
  clear hv' hv
  go_enter Try.func26, Try.ntmps26
  go_wp2_with fail
  refine (C.out _ (row_box (row_box hr _) _)).mono ?_
  rintro e w1 ⟨rfl, hw1⟩
  go_wp2
  go_ret2
  exact ⟨by rw [HV.out]; rfl, (((Below.refl _ _).alloc (Nat.le_refl _) _).alloc (by simp) _).trans (hw1.mono (by simp; omega))⟩
set_option maxRecDepth 100000 in
set_option maxHeartbeats 1000000 in
theorem day_bad (off : Int) (a : Option Addr) (n cap : Nat) (cs : List (Int × Int)) (t : Int) (hn : n ≤ 9223372036854775807) (w : World) (hr : ChRow w w.heap.size a n cs) (hv : ¬ vAE off cs t = 0) :
    Calls Try.prog 22 #[.agg #[.int .i64 off, .slice a n cap], .int .i64 t] w fun e w' => e = .returned (.tuple #[.int .i64 0, .int .i64 (vAE off cs t)]) ∧ Below w.heap.size w w' := by
  have C := Lib.hid (validAt_any off a n cap cs t hn)
  obtain ⟨v, hv'⟩ : ∃ v, vAE off cs t = v := ⟨_, rfl⟩
  rw [hv'] at C hv
  have HV := Lib.hid hv'
  have hb : (v == 0) = false := by simp [hv]
  have hE := hv
  clear hv' hv
  go_enter Try.func22, Try.ntmps22
  go_wp2_with fail
  refine (C.out _ (row_box (row_box hr _) _)).mono ?_
  rintro e w1 ⟨rfl, hw1⟩
  go_wp2
  go_ret2
  exact ⟨by rw [HV.out]; rfl, (((Below.refl _ _).alloc (Nat.le_refl _) _).alloc (by simp) _).trans (hw1.mono (by simp; omega))⟩
set_option maxRecDepth 100000 in
set_option maxHeartbeats 1000000 in
theorem first_bad (off : Int) (a : Option Addr) (n cap : Nat) (cs : List (Int × Int)) (t : Int) (hn : n ≤ 9223372036854775807) (w : World) (hr : ChRow w w.heap.size a n cs) (hv : ¬ vE off cs = 0) :
    Calls Try.prog 21 #[.agg #[.int .i64 off, .slice a n cap], .int .i64 t] w fun e w' => e = .returned (.tuple #[.int .i64 0, .int .i64 (vE off cs)]) ∧ Below w.heap.size w w' := by
  have C := Lib.hid (valid_any off a n cap cs hn)
  obtain ⟨v, hv'⟩ : ∃ v, vE off cs = v := ⟨_, rfl⟩
  rw [hv'] at C hv
  have HV := Lib.hid hv'
  have hb : (v == 0) = false := by simp [hv]
  have hE := hv
  clear hv' hv
  go_enter Try.func21, Try.ntmps21
  go_wp2_with fail
  refine (C.out _ (row_box (row_box hr _) _)).mono ?_
  rintro e w1 ⟨rfl, hw1⟩
  go_wp2
  go_ret2
  exact ⟨by rw [HV.out]; rfl, (((Below.refl _ _).alloc (Nat.le_refl _) _).alloc (by simp) _).trans (hw1.mono (by simp; omega))⟩
set_option maxRecDepth 100000 in
set_option maxHeartbeats 1000000 in
theorem instants_bad (off : Int) (a : Option Addr) (n cap : Nat) (cs : List (Int × Int)) (t : Int) (hn : n ≤ 9223372036854775807) (w : World) (hr : ChRow w w.heap.size a n cs) (hv : ¬ vE off cs = 0) :
    Calls Try.prog 20 #[.agg #[.int .i64 off, .slice a n cap], .int .i64 t] w fun e w' => e = .returned (.tuple #[.slice none 0 0, .int .i64 (vE off cs)]) ∧ Below w.heap.size w w' := by
  have C := Lib.hid (valid_any off a n cap cs hn)
  obtain ⟨v, hv'⟩ : ∃ v, vE off cs = v := ⟨_, rfl⟩
  rw [hv'] at C hv
  have HV := Lib.hid hv'
  have hb : (v == 0) = false := by simp [hv]
  have hE := hv
  clear hv' hv
  go_enter Try.func20, Try.ntmps20
  go_wp2_with fail
  refine (C.out _ (row_box (row_box hr _) _)).mono ?_
  rintro e w1 ⟨rfl, hw1⟩
  go_wp2
  go_ret2
  exact ⟨by rw [HV.out]; rfl, (((Below.refl _ _).alloc (Nat.le_refl _) _).alloc (by simp) _).trans (hw1.mono (by simp; omega))⟩

theorem offset_any (off : Int) (a : Option Addr) (n cap : Nat) (cs : List (Int × Int)) (t : Int) (hn : n ≤ 9223372036854775807) (w : World) (hr : ChRow w w.heap.size a n cs) :
    Calls Try.prog 26 #[.agg #[.int .i64 off, .slice a n cap], .int .i64 t] w (Two2 (oV off cs t) (vAE off cs t) w) := by
  by_cases h : vAE off cs t = 0
  · have hl := vE_len (vAE_v h).1
    refine (offset_ok off a n cap cs t (by rw [← hr.1]; exact hl) w hr h).mono fun e w' ⟨he, hb⟩ => ⟨?_, hb⟩
    rw [he]; exact ret2I (by unfold oV; rw [if_pos h]) h.symm
  · refine (offset_bad off a n cap cs t hn w hr h).mono fun e w' ⟨he, hb⟩ => ⟨?_, hb⟩
    rw [he]; exact ret2I (by unfold oV; rw [if_neg h]) rfl
theorem day_any (off : Int) (a : Option Addr) (n cap : Nat) (cs : List (Int × Int)) (t : Int) (hn : n ≤ 9223372036854775807) (w : World) (hr : ChRow w w.heap.size a n cs) :
    Calls Try.prog 22 #[.agg #[.int .i64 off, .slice a n cap], .int .i64 t] w (Two2 (dV off cs t) (vAE off cs t) w) := by
  by_cases h : vAE off cs t = 0
  · obtain ⟨h1, h2, h3⟩ := vAE_v h
    refine (day_ok off a n cap cs t (by rw [← hr.1]; exact vE_len h1) w hr h h2 h3 (spL_ok h1)).mono fun e w' ⟨he, hb⟩ => ⟨?_, hb⟩
    rw [he]; exact ret2I (by unfold dV; rw [if_pos h]) h.symm
  · refine (day_bad off a n cap cs t hn w hr h).mono fun e w' ⟨he, hb⟩ => ⟨?_, hb⟩
    rw [he]; exact ret2I (by unfold dV; rw [if_neg h]) rfl
theorem first_any (off : Int) (a : Option Addr) (n cap : Nat) (cs : List (Int × Int)) (t : Int) (hn : n ≤ 9223372036854775807) (w : World) (hr : ChRow w w.heap.size a n cs) :
    Calls Try.prog 21 #[.agg #[.int .i64 off, .slice a n cap], .int .i64 t] w (Two2 (f1V off cs t) (vE off cs) w) := by
  by_cases h : vE off cs = 0
  · refine (first_ok off a n cap cs t (by rw [← hr.1]; exact vE_len h) w hr h (spL_ok h)).mono fun e w' ⟨he, hb⟩ => ⟨?_, hb⟩
    rw [he]; exact ret2I (by unfold f1V; rw [if_pos h]) h.symm
  · refine (first_bad off a n cap cs t hn w hr h).mono fun e w' ⟨he, hb⟩ => ⟨?_, hb⟩
    rw [he]; exact ret2I (by unfold f1V; rw [if_neg h]) rfl
theorem instants_any (off : Int) (a : Option Addr) (n cap : Nat) (cs : List (Int × Int)) (t : Int) (hn : n ≤ 9223372036854775807) (w : World) (hr : ChRow w w.heap.size a n cs) :
    Calls Try.prog 20 #[.agg #[.int .i64 off, .slice a n cap], .int .i64 t] w (InsA (iV off cs t) (vE off cs) w) := by
  by_cases h : vE off cs = 0
  · refine (instants_ok off a n cap cs t (by rw [← hr.1]; exact vE_len h) w hr h).mono fun e w' ⟨v, he, ho, hb⟩ => ⟨v, by rw [he, h], ?_, hb⟩
    unfold iV; rw [if_pos h]; exact ho
  · refine (instants_bad off a n cap cs t hn w hr h).mono fun e w' ⟨he, hb⟩ => ⟨_, he, ?_, hb⟩
    unfold iV; rw [if_neg h]; exact World.ownsRow_nil _ _ _ _

set_option maxRecDepth 100000 in
set_option maxHeartbeats 1000000 in
theorem local_any (off : Int) (a : Option Addr) (n cap : Nat) (cs : List (Int × Int)) (t : Int) (hn : n ≤ 9223372036854775807) (w : World) (hr : ChRow w w.heap.size a n cs) :
    Calls Try.prog 19 #[.agg #[.int .i64 off, .slice a n cap], .int .i64 t] w (Two2 (lV off cs t) (vAE off cs t) w) := by
  have C := Lib.hid (offset_any off a n cap cs t hn)
  by_cases h : vAE off cs t = 0
  · obtain ⟨h1, h2, h3⟩ := vAE_v h
    obtain ⟨b0, b1⟩ := offV_bd (desc_spL off cs h1) t
    have ho : oV off cs t = offV t (spL off cs) := by unfold oV; rw [if_pos h]
    have hl : lV off cs t = t + offV t (spL off cs) := by unfold lV; rw [if_pos h]
    rw [ho, h] at C
    have HL := Lib.hid hl
    have HV := Lib.hid h
    generalize offV t (spL off cs) = o at *
    clear ho hl h h1
    go_enter Try.func19, Try.ntmps19
    go_wp2_with fail
    refine (C.out _ (row_box hr _)).mono ?_
    rintro e w1 ⟨rfl, hw1⟩
    go_wp2
    go_ret2
    exact ⟨ret2I HL.out.symm HV.out.symm, ((Below.refl _ _).alloc (Nat.le_refl _) _).trans (hw1.mono (by simp))⟩
  · have hl : lV off cs t = 0 := by unfold lV; rw [if_neg h]
    have HL := Lib.hid hl
    obtain ⟨v, hv'⟩ : ∃ v, vAE off cs t = v := ⟨_, rfl⟩
    have ho : oV off cs t = 0 := by unfold oV; rw [if_neg h]
    rw [hv', ho] at C
    rw [hv'] at h
    have HV := Lib.hid hv'
    have hb : (v == 0) = false := by simp [h]
    clear hl hv' ho
    go_enter Try.func19, Try.ntmps19
    go_wp2_with fail
    refine (C.out _ (row_box hr _)).mono ?_
    rintro e w1 ⟨rfl, hw1⟩
    go_wp2
    go_ret2
    exact ⟨ret2I HL.out.symm HV.out.symm, ((Below.refl _ _).alloc (Nat.le_refl _) _).trans (hw1.mono (by simp))⟩

set_option maxRecDepth 100000 in
set_option maxHeartbeats 1000000 in
theorem begin_any (off : Int) (a : Option Addr) (n cap : Nat) (cs : List (Int × Int)) (d : Int) (hn : n ≤ 9223372036854775807) (w : World) (hr : ChRow w w.heap.size a n cs) :
    Calls Try.prog 23 #[.agg #[.int .i64 off, .slice a n cap], .int .i64 d] w (Two2 (bV off cs d) (bE off cs d) w) := by
  have C := Lib.hid (valid_any off a n cap cs hn)
  have D := Lib.hid (first_any off a n cap cs (d * 1440) hn)
  have hE : bE off cs d = if vE off cs = 0 then (if d < 0 ∨ 84006 < d then 2 else 0) else vE off cs := rfl
  have hV : bV off cs d = if bE off cs d = 0 then (if d = 0 then 0 else if d = 84006 then END else fV (nearT (d * 1440)) (spL off cs)) else 0 := rfl
  by_cases h : vE off cs = 0
  · rw [if_pos h] at hE
    have hf : f1V off cs (d * 1440) = fV (nearT (d * 1440)) (spL off cs) := by unfold f1V; rw [if_pos h]
    rw [hf, h] at D
    rw [h] at C
    clear hf h
    generalize fV (nearT (d * 1440)) (spL off cs) = f at *
    by_cases hd : d < 0 ∨ 84006 < d
    · rw [if_pos hd] at hE
      rw [hE, if_neg (by omega)] at hV
      have HE := Lib.hid hE
      have HV := Lib.hid hV
      clear hE hV
      rcases hd with hd | hd
      · go_enter Try.func23, Try.ntmps23
        go_wp2_with fail
        refine (C.out _ (row_box hr _)).mono ?_
        rintro e w1 ⟨rfl, hw1⟩
        go_wp2
        go_ret2
        exact ⟨ret2I HV.out.symm HE.out.symm, ((Below.refl _ _).alloc (Nat.le_refl _) _).trans (hw1.mono (by simp))⟩
      · have hd' : ¬ d < 0 := by omega
        go_enter Try.func23, Try.ntmps23
        go_wp2_with fail
        refine (C.out _ (row_box hr _)).mono ?_
        rintro e w1 ⟨rfl, hw1⟩
        go_wp2
        go_ret2
        exact ⟨ret2I HV.out.symm HE.out.symm, ((Below.refl _ _).alloc (Nat.le_refl _) _).trans (hw1.mono (by simp))⟩
    · rw [if_neg hd] at hE
      rw [hE, if_pos rfl] at hV
      have d0 : 0 ≤ d := by omega
      have d1 : d ≤ 84006 := by omega
      have HE := Lib.hid hE
      clear hE hd
      by_cases h0 : d = 0
      · rw [if_pos h0] at hV
        have HV := Lib.hid hV
        have hb : (d == 0) = true := by simp [h0]
        clear hV h0
        go_enter Try.func23, Try.ntmps23
        go_wp2_with fail
        refine (C.out _ (row_box hr _)).mono ?_
        rintro e w1 ⟨rfl, hw1⟩
        go_wp2
        go_ret2
        exact ⟨ret2I HV.out.symm HE.out.symm, ((Below.refl _ _).alloc (Nat.le_refl _) _).trans (hw1.mono (by simp))⟩
      · rw [if_neg h0] at hV
        have hb : (d == 0) = false := by simp [h0]
        clear h0
        by_cases h1 : d = 84006
        · rw [if_pos h1] at hV
          have HV := Lib.hid hV
          have hb1 : (d == 84006) = true := by simp [h1]
          clear hV h1
          go_enter Try.func23, Try.ntmps23
          go_wp2_with fail
          refine (C.out _ (row_box hr _)).mono ?_
          rintro e w1 ⟨rfl, hw1⟩
          go_wp2
          go_ret2
          exact ⟨ret2I HV.out.symm HE.out.symm, ((Below.refl _ _).alloc (Nat.le_refl _) _).trans (hw1.mono (by simp))⟩
        · rw [if_neg h1] at hV
          have HV := Lib.hid hV
          have hb1 : (d == 84006) = false := by simp [h1]
          clear hV h1
          have hZ := ZBox.new w off a n cap
          have c0 := hZ.c0
          have c1 := hZ.c1
          have hlt := hZ.lt
          have e0 : w.heap.size < (w.alloc (.cells #[.int .i64 off, .slice a n cap] 24)).heap.size := by simp
          go_enter Try.func23, Try.ntmps23
          go_wp2_with fail
          refine (C.out _ (row_box hr _)).mono ?_
          rintro e w1 ⟨rfl, hw1⟩
          have f0 := (hw1.cell (p := ⟨w.heap.size, 0, none⟩) e0).trans c0
          have f1 := (hw1.cell (p := ⟨w.heap.size, 1, none⟩) e0).trans c1
          have hB1 : Below w.heap.size w w1 := ((Below.refl _ _).alloc (Nat.le_refl _) _).trans (hw1.mono (by simp))
          have hr1 := row_more hr hB1
          clear c0 c1 hZ
          go_wp2_with fail
          refine (D.out _ hr1).mono ?_
          rintro e w2 ⟨rfl, hw2⟩
          go_wp2
          go_ret2
          exact ⟨ret2I HV.out.symm HE.out.symm, hB1.trans (hw2.mono hB1.size)⟩
  · rw [if_neg h] at hE
    rw [hE, if_neg h] at hV
    have HV := Lib.hid hV
    obtain ⟨v, hv'⟩ : ∃ v, vE off cs = v := ⟨_, rfl⟩
    rw [hv'] at C h hE
    have HE := Lib.hid hE
    have hb : (v == 0) = false := by simp [h]
    clear hv' hE hV D
    go_enter Try.func23, Try.ntmps23
    go_wp2_with fail
    refine (C.out _ (row_box hr _)).mono ?_
    rintro e w1 ⟨rfl, hw1⟩
    go_wp2
    go_ret2
    exact ⟨ret2I HV.out.symm HE.out.symm, ((Below.refl _ _).alloc (Nat.le_refl _) _).trans (hw1.mono (by simp))⟩
end Go.Proofs.Ytbbfkpkibakieaa
