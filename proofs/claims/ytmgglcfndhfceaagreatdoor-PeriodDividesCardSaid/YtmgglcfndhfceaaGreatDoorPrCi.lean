/-
  Layer 3 (calendar): contracts of nth, place, named, valid. Conditions: the arguments fit their kinds (named: a valid rule, a year from 1970 to 2199); the table of month lengths reads as the program's text lays it.
-/
import Derived.Test.YtmgglcfndhfceaaGreatDoorPrCb
import Derived.Test.YtmgglcfndhfceaaGreatDoorPrCn
namespace Go.Proofs.YtmgglcfndhfceaaGreatDoor
open Go Go.RowKit Go.Lib

theorem quiet_add_left {P : Program} {f : FuncId} {args : Array Value} {w : World} {a n : Nat} {v : Value}
    (h : Calls P f args (w.drewN (a + n)) fun e w' => e = .returned v ∧ w.drewN (a + n) = w') :
    Calls P f args (w.drewN (a + n)) fun e w'' => e = .returned v ∧ ∃ m, w'' = w.drewN (a + m) :=
  h.mono fun _ _ ⟨he, hm⟩ => ⟨he, n, hm.symm⟩
theorem quiet_whole {P : Program} {f : FuncId} {args : Array Value} {w : World} {v : Value}
    (h : Calls P f args w fun e w' => e = .returned v ∧ w = w') : Calls P f args w fun e w'' => e = .returned v ∧ ∃ m, w'' = w.drewN m :=
  h.mono fun _ _ ⟨he, hm⟩ => ⟨he, 0, hm.symm⟩
theorem cellB {w w' : World} {p : Addr} {v : Value} (h : w.cell? p = some v) (hb : Below w.heap.size w w') : w'.cell? p = some v :=
  (hb.cell (World.block_lt_of_cell? w p h)).trans h

set_option maxRecDepth 100000 in
set_option maxHeartbeats 1000000 in
theorem nth_any (m wday n : Int) (h0 : 0 ≤ m) (h1 : m ≤ 2759) (w0 : 0 ≤ wday) (w1 : wday ≤ 6) (n0 : -1 ≤ n) (n1 : n ≤ 5) (w : World) (hl : LgIs w) :
    Calls Tryz.prog 96 #[.int .i64 m, .int .i64 wday, .int .i64 n] w fun e w' => e = .returned (.tuple #[.int .i64 (Cal.nthV m wday n), .bool (Cal.nthB m wday n)]) ∧ w = w' := by
  obtain ⟨f0, f1⟩ := Cal.fst_bd m h0 (by omega)
  obtain ⟨l0, l1⟩ := Cal.len_bd m
  obtain ⟨d0, d1⟩ := Cal.wd_bd (Cal.fst m)
  obtain ⟨d2, d3⟩ := Cal.wd_bd (Cal.fst m + Cal.len m - 1)
  by_cases hn : n < 0
  · have E := Lib.hid (show Cal.nthV m wday n = Cal.fst m + Cal.len m - 1 - (Cal.wd (Cal.fst m + Cal.len m - 1) - wday) % 7 ∧ Cal.nthB m wday n = true by unfold Cal.nthB Cal.nthV; rw [if_pos hn, if_pos hn]; exact ⟨rfl, rfl⟩)
    go_enter Tryz.func96, Tryz.ntmps96
    go_wp2_with (first | (go_at_call 65; (with_reducible refine (first_yes _ (by omega) (by omega) _ hl).mono ?_); rintro e w' ⟨rfl, rfl⟩) | (go_at_call 66; (with_reducible refine (length_int _ (by omega) (by omega) _ hl).mono ?_); rintro e w' ⟨rfl, rfl⟩) | (go_at_call 70; (with_reducible refine (weekday_any _ (by omega) (by omega) _).mono ?_); rintro e w' ⟨rfl, rfl⟩))
    go_ret2
    exact ⟨by rw [E.out.1, E.out.2]; rfl, rfl⟩
  · have E := Lib.hid (show Cal.nthV m wday n = Cal.fst m + (wday - Cal.wd (Cal.fst m)) % 7 + 7 * (n - 1) ∧ Cal.nthB m wday n = decide (Cal.fst m + (wday - Cal.wd (Cal.fst m)) % 7 + 7 * (n - 1) ≤ Cal.fst m + Cal.len m - 1) by unfold Cal.nthB Cal.nthV; rw [if_neg hn, if_neg hn]; exact ⟨rfl, rfl⟩)
    rcases hd : decide (Cal.fst m + (wday - Cal.wd (Cal.fst m)) % 7 + 7 * (n - 1) ≤ Cal.fst m + Cal.len m - 1) with _ | _
    · have D := Lib.hid hd
      go_enter Tryz.func96, Tryz.ntmps96
      go_wp2_with (first | (go_at_call 65; (with_reducible refine (first_yes _ (by omega) (by omega) _ hl).mono ?_); rintro e w' ⟨rfl, rfl⟩) | (go_at_call 66; (with_reducible refine (length_int _ (by omega) (by omega) _ hl).mono ?_); rintro e w' ⟨rfl, rfl⟩) | (go_at_call 70; (with_reducible refine (weekday_any _ (by omega) (by omega) _).mono ?_); rintro e w' ⟨rfl, rfl⟩))
      go_ret2
      exact ⟨by rw [E.out.1, E.out.2, D.out]; rfl, rfl⟩
    · have D := Lib.hid hd
      go_enter Tryz.func96, Tryz.ntmps96
      go_wp2_with (first | (go_at_call 65; (with_reducible refine (first_yes _ (by omega) (by omega) _ hl).mono ?_); rintro e w' ⟨rfl, rfl⟩) | (go_at_call 66; (with_reducible refine (length_int _ (by omega) (by omega) _ hl).mono ?_); rintro e w' ⟨rfl, rfl⟩) | (go_at_call 70; (with_reducible refine (weekday_any _ (by omega) (by omega) _).mono ?_); rintro e w' ⟨rfl, rfl⟩))
      go_ret2
      exact ⟨by rw [E.out.1, E.out.2, D.out]; rfl, rfl⟩

/-- What a contract of two results leaves: the results, and nothing that was there has changed. -/
def Ret2 (a : Int) (b : Bool) (w : World) (e : Ending) (w' : World) : Prop := e = .returned (.tuple #[.int .i64 a, .bool b]) ∧ Below w.heap.size w w'
theorem Ret2.of {a a' : Int} {b b' : Bool} {w w' : World} {e : Ending} (he : e = .returned (.tuple #[.int .i64 a', .bool b'])) (ha : a = a') (hb : b = b') (h : Below w.heap.size w w') : Ret2 a b w e w' := by
  subst ha hb; exact ⟨he, h⟩

set_option maxRecDepth 100000 in
set_option maxHeartbeats 1000000 in
theorem place_any (h : Cal.Hol) (y : Int) (hv : h.ok = true) (y0 : 1970 ≤ y) (y1 : y ≤ 2199) (w : World) (hl : LgIs w) :
    Calls Tryz.prog 88 #[.agg #[.int .i64 h.kind, .int .i64 h.month, .int .i64 h.day, .int .i64 h.wday, .int .i64 h.off, .bool h.moved], .int .i64 y] w (Ret2 (h.pl y) (h.plB y) w) := by
  have hv' := of_decide_eq_true hv
  have ⟨p0, p1⟩ := Cal.plV_bd h y hv y0 y1
  obtain ⟨kind, month, day, wday, off, moved⟩ := h
  unfold Cal.Hol.pl Cal.plV at p0 p1
  simp only at hv' p0 p1
  have HL : ∀ (o : Obj), LgIs (w.alloc o) := fun o => hl.below (Below.alloc (Below.refl _ _) (Nat.le_refl _) o)
  rcases hv' with ⟨rfl, m0, m1, d0, d1, rfl, rfl⟩ | ⟨rfl, rfl, rfl, rfl, o0, o1⟩ | ⟨rfl, m0, m1, d, w0, w1, o0, o1⟩
  · by_cases hi : Cal.Is y month day
    · have E := Lib.hid (show Cal.Hol.pl ⟨0, month, day, 0, 0, moved⟩ y = Cal.dayT y month day ∧ Cal.Hol.plB ⟨0, month, day, 0, 0, moved⟩ y = true from ⟨by unfold Cal.Hol.pl Cal.plV; simp [hi], by unfold Cal.Hol.plB Cal.plB; simp [hi]⟩)
      obtain ⟨r0, r1⟩ := hi.date.range
      clear p0 p1 d1
      go_enter Tryz.func88, Tryz.ntmps88
      go_wp2_with (go_at_call 94; (with_reducible refine (day_yes _ _ _ hi _ (HL _)).mono ?_); rintro e w' ⟨rfl, rfl⟩)
      go_ret2
      exact Ret2.of rfl E.out.1 E.out.2 (Below.alloc (Below.refl _ _) (Nat.le_refl _) _)
    · have E := Lib.hid (show Cal.Hol.pl ⟨0, month, day, 0, 0, moved⟩ y = 0 ∧ Cal.Hol.plB ⟨0, month, day, 0, 0, moved⟩ y = false from ⟨by unfold Cal.Hol.pl Cal.plV; simp [hi], by unfold Cal.Hol.plB Cal.plB; simp [hi]⟩)
      clear p0 p1 d1
      go_enter Tryz.func88, Tryz.ntmps88
      go_wp2_with (go_at_call 94; (with_reducible refine (day_no _ _ _ (by omega) (by omega) (by omega) (by omega) hi _ (HL _)).mono ?_); rintro e w' ⟨rfl, rfl⟩)
      go_ret2
      exact Ret2.of rfl E.out.1 E.out.2 (Below.alloc (Below.refl _ _) (Nat.le_refl _) _)
  · have E := Lib.hid (show Cal.Hol.pl ⟨1, 0, 0, 0, off, moved⟩ y = Cal.eaT y + off ∧ Cal.Hol.plB ⟨1, 0, 0, 0, off, moved⟩ y = true from ⟨by unfold Cal.Hol.pl Cal.plV; simp, by unfold Cal.Hol.plB Cal.plB; simp⟩)
    obtain ⟨r0, r1⟩ := Cal.eaT_bd y y0 y1
    clear p0 p1
    go_enter Tryz.func88, Tryz.ntmps88
    go_wp2_with (go_at_call 95; (with_reducible refine (easter_yes _ y0 y1 _ (HL _)).mono ?_); rintro e w' ⟨rfl, rfl⟩)
    go_ret2
    exact Ret2.of rfl E.out.1 E.out.2 (Below.alloc (Below.refl _ _) (Nat.le_refl _) _)
  · have E := Lib.hid (show Cal.Hol.pl ⟨2, month, day, wday, off, moved⟩ y = Cal.nthV (12 * (y - 1970) + month - 1) wday day + off ∧ Cal.Hol.plB ⟨2, month, day, wday, off, moved⟩ y = Cal.nthB (12 * (y - 1970) + month - 1) wday day from ⟨by unfold Cal.Hol.pl Cal.plV; simp, by unfold Cal.Hol.plB Cal.plB; simp⟩)
    obtain ⟨r0, r1⟩ := Cal.nthV_bd (12 * (y - 1970) + month - 1) wday day (by omega) (by omega) (by omega)
    have n0 : -1 ≤ day := by omega
    have n1 : day ≤ 5 := by omega
    clear p0 p1 d
    go_enter Tryz.func88, Tryz.ntmps88
    go_wp2
    go_quiet ((first | (go_at_call 79; first | exact quiet_left (number_any _ _ (by omega) (by omega) (by omega) (by omega) _) | exact quiet_add_left (number_any _ _ (by omega) (by omega) (by omega) (by omega) _)) | (go_at_call 96; first | exact quiet_left (nth_any _ _ _ (by omega) (by omega) w0 w1 n0 n1 _ ((HL _).below (below_drewN (Below.refl _ _) _))) | exact quiet_add_left (nth_any _ _ _ (by omega) (by omega) w0 w1 n0 n1 _ ((HL _).below (below_drewN (Below.refl _ _) _))))))
    go_wp2
    go_ret2
    exact Ret2.of rfl E.out.1 E.out.2 (below_drewN (Below.alloc (Below.refl _ _) (Nat.le_refl _) _) _)

set_option maxRecDepth 100000 in
set_option maxHeartbeats 1000000 in
theorem named_any (h : Cal.Hol) (y : Int) (hv : h.ok = true) (y0 : 1970 ≤ y) (y1 : y ≤ 2199) (w : World) (hl : LgIs w) :
    Calls Tryz.prog 82 #[.agg #[.int .i64 h.kind, .int .i64 h.month, .int .i64 h.day, .int .i64 h.wday, .int .i64 h.off, .bool h.moved], .int .i64 y] w (Ret2 (h.v y) (h.b y) w) := by
  have ⟨p0, p1⟩ := Cal.plV_bd h y hv y0 y1
  have HL : ∀ (o : Obj), LgIs (w.alloc o) := fun o => hl.below (Below.alloc (Below.refl _ _) (Nat.le_refl _) o)
  obtain ⟨g0, g1⟩ := Cal.wd_bd (h.pl y)
  rcases hm : h.moved with _ | _
  · rcases hb : h.plB y with _ | _
    · have E := Lib.hid (show h.v y = h.pl y by unfold Cal.Hol.v Cal.mvV; rw [hm, if_neg (by simp)])
      have B := Lib.hid (show h.b y = false by unfold Cal.Hol.b; rw [hb]; rfl)
      have C := Lib.hid (place_any h y hv y0 y1)
      rw [hm, hb] at C
      clear hm hb
      go_enter Tryz.func82, Tryz.ntmps82
      go_wp2_with fail
      refine (C.out _ (HL _)).mono ?_
      rintro e w1 ⟨rfl, hb1⟩
      have q : w1.cell? ⟨w.heap.size, 5, none⟩ = some (.bool false) := cellB (by go_simp) hb1
      have hB : Below w.heap.size w w1 := (Below.alloc (Below.refl _ _) (Nat.le_refl _) _).trans (hb1.mono (by simp))
      clear hb1 HL
      go_wp2_with fail
      go_ret2
      exact Ret2.of rfl E.out B.out hB
    · by_cases hi : 0 ≤ h.pl y ∧ h.pl y ≤ 84005
      · have E := Lib.hid (show h.v y = h.pl y by unfold Cal.Hol.v Cal.mvV; rw [hm, if_neg (by simp)])
        have B := Lib.hid (show h.b y = true by unfold Cal.Hol.b Cal.inD; rw [hb, E.out, Bool.true_and]; exact decide_eq_true hi)
        obtain ⟨i0, i1⟩ := hi
        have C := Lib.hid (place_any h y hv y0 y1)
        rw [hm, hb] at C
        clear hm hb
        go_enter Tryz.func82, Tryz.ntmps82
        go_wp2_with fail
        refine (C.out _ (HL _)).mono ?_
        rintro e w1 ⟨rfl, hb1⟩
        have q : w1.cell? ⟨w.heap.size, 5, none⟩ = some (.bool false) := cellB (by go_simp) hb1
        have hB : Below w.heap.size w w1 := (Below.alloc (Below.refl _ _) (Nat.le_refl _) _).trans (hb1.mono (by simp))
        clear hb1 HL
        go_wp2_with (go_at_call 67; (with_reducible refine (within_yes _ _ _ (by omega) (by omega) _).mono ?_); rintro e w' ⟨rfl, rfl⟩)
        go_ret2
        exact Ret2.of rfl E.out B.out hB
      · have E := Lib.hid (show h.v y = h.pl y by unfold Cal.Hol.v Cal.mvV; rw [hm, if_neg (by simp)])
        have B := Lib.hid (show h.b y = false by unfold Cal.Hol.b Cal.inD; rw [hb, E.out, Bool.true_and]; exact decide_eq_false hi)
        have hi' : h.pl y < 0 ∨ 84005 < h.pl y := by omega
        clear hi
        have C := Lib.hid (place_any h y hv y0 y1)
        rw [hm, hb] at C
        clear hm hb
        go_enter Tryz.func82, Tryz.ntmps82
        go_wp2_with fail
        refine (C.out _ (HL _)).mono ?_
        rintro e w1 ⟨rfl, hb1⟩
        have q : w1.cell? ⟨w.heap.size, 5, none⟩ = some (.bool false) := cellB (by go_simp) hb1
        have hB : Below w.heap.size w w1 := (Below.alloc (Below.refl _ _) (Nat.le_refl _) _).trans (hb1.mono (by simp))
        clear hb1 HL
        go_wp2_with (go_at_call 67; (with_reducible refine (within_no _ _ _ hi' _).mono ?_); rintro e w' ⟨rfl, rfl⟩)
        go_ret2
        exact Ret2.of rfl E.out B.out hB
  · by_cases hg : 5 ≤ Cal.wd (h.pl y)
    · rcases hb : h.plB y with _ | _
      · have E := Lib.hid (show h.v y = h.pl y + (7 - Cal.wd (h.pl y)) by unfold Cal.Hol.v Cal.mvV; rw [hm, if_pos ⟨rfl, hg⟩])
        have B := Lib.hid (show h.b y = false by unfold Cal.Hol.b; rw [hb]; rfl)
        have hg1 : decide (5 ≤ Cal.wd (h.pl y)) = true := decide_eq_true hg
        have C := Lib.hid (place_any h y hv y0 y1)
        rw [hm, hb] at C
        clear hm hb
        go_enter Tryz.func82, Tryz.ntmps82
        go_wp2_with fail
        refine (C.out _ (HL _)).mono ?_
        rintro e w1 ⟨rfl, hb1⟩
        have q : w1.cell? ⟨w.heap.size, 5, none⟩ = some (.bool true) := cellB (by go_simp) hb1
        have hB : Below w.heap.size w w1 := (Below.alloc (Below.refl _ _) (Nat.le_refl _) _).trans (hb1.mono (by simp))
        clear hb1 HL
        go_wp2_with (go_at_call 70; (with_reducible refine (weekday_any _ (by omega) (by omega) _).mono ?_); rintro e w' ⟨rfl, rfl⟩)
        go_ret2
        exact Ret2.of rfl E.out B.out hB
      · by_cases hi : 0 ≤ h.pl y + (7 - Cal.wd (h.pl y)) ∧ h.pl y + (7 - Cal.wd (h.pl y)) ≤ 84005
        · have E := Lib.hid (show h.v y = h.pl y + (7 - Cal.wd (h.pl y)) by unfold Cal.Hol.v Cal.mvV; rw [hm, if_pos ⟨rfl, hg⟩])
          have B := Lib.hid (show h.b y = true by unfold Cal.Hol.b Cal.inD; rw [hb, E.out, Bool.true_and]; exact decide_eq_true hi)
          obtain ⟨i0, i1⟩ := hi
          have hg1 : decide (5 ≤ Cal.wd (h.pl y)) = true := decide_eq_true hg
          have C := Lib.hid (place_any h y hv y0 y1)
          rw [hm, hb] at C
          clear hm hb
          go_enter Tryz.func82, Tryz.ntmps82
          go_wp2_with fail
          refine (C.out _ (HL _)).mono ?_
          rintro e w1 ⟨rfl, hb1⟩
          have q : w1.cell? ⟨w.heap.size, 5, none⟩ = some (.bool true) := cellB (by go_simp) hb1
          have hB : Below w.heap.size w w1 := (Below.alloc (Below.refl _ _) (Nat.le_refl _) _).trans (hb1.mono (by simp))
          clear hb1 HL
          go_wp2_with (first | (go_at_call 70; (with_reducible refine (weekday_any _ (by omega) (by omega) _).mono ?_); rintro e w' ⟨rfl, rfl⟩) | (go_at_call 67; (with_reducible refine (within_yes _ _ _ (by omega) (by omega) _).mono ?_); rintro e w' ⟨rfl, rfl⟩))
          go_ret2
          exact Ret2.of rfl E.out B.out hB
        · have E := Lib.hid (show h.v y = h.pl y + (7 - Cal.wd (h.pl y)) by unfold Cal.Hol.v Cal.mvV; rw [hm, if_pos ⟨rfl, hg⟩])
          have B := Lib.hid (show h.b y = false by unfold Cal.Hol.b Cal.inD; rw [hb, E.out, Bool.true_and]; exact decide_eq_false hi)
          have hi' : h.pl y + (7 - Cal.wd (h.pl y)) < 0 ∨ 84005 < h.pl y + (7 - Cal.wd (h.pl y)) := by omega
          clear hi
          have hg1 : decide (5 ≤ Cal.wd (h.pl y)) = true := decide_eq_true hg
          have C := Lib.hid (place_any h y hv y0 y1)
          rw [hm, hb] at C
          clear hm hb
          go_enter Tryz.func82, Tryz.ntmps82
          go_wp2_with fail
          refine (C.out _ (HL _)).mono ?_
          rintro e w1 ⟨rfl, hb1⟩
          have q : w1.cell? ⟨w.heap.size, 5, none⟩ = some (.bool true) := cellB (by go_simp) hb1
          have hB : Below w.heap.size w w1 := (Below.alloc (Below.refl _ _) (Nat.le_refl _) _).trans (hb1.mono (by simp))
          clear hb1 HL
          go_wp2_with (first | (go_at_call 70; (with_reducible refine (weekday_any _ (by omega) (by omega) _).mono ?_); rintro e w' ⟨rfl, rfl⟩) | (go_at_call 67; (with_reducible refine (within_no _ _ _ hi' _).mono ?_); rintro e w' ⟨rfl, rfl⟩))
          go_ret2
          exact Ret2.of rfl E.out B.out hB
    · rcases hb : h.plB y with _ | _
      · have E := Lib.hid (show h.v y = h.pl y by unfold Cal.Hol.v Cal.mvV; rw [hm, if_neg (fun c => hg c.2)])
        have B := Lib.hid (show h.b y = false by unfold Cal.Hol.b; rw [hb]; rfl)
        have hg1 : decide (5 ≤ Cal.wd (h.pl y)) = false := decide_eq_false hg
        have C := Lib.hid (place_any h y hv y0 y1)
        rw [hm, hb] at C
        clear hm hb
        go_enter Tryz.func82, Tryz.ntmps82
        go_wp2_with fail
        refine (C.out _ (HL _)).mono ?_
        rintro e w1 ⟨rfl, hb1⟩
        have q : w1.cell? ⟨w.heap.size, 5, none⟩ = some (.bool true) := cellB (by go_simp) hb1
        have hB : Below w.heap.size w w1 := (Below.alloc (Below.refl _ _) (Nat.le_refl _) _).trans (hb1.mono (by simp))
        clear hb1 HL
        go_wp2_with (go_at_call 70; (with_reducible refine (weekday_any _ (by omega) (by omega) _).mono ?_); rintro e w' ⟨rfl, rfl⟩)
        go_ret2
        exact Ret2.of rfl E.out B.out hB
      · by_cases hi : 0 ≤ h.pl y ∧ h.pl y ≤ 84005
        · have E := Lib.hid (show h.v y = h.pl y by unfold Cal.Hol.v Cal.mvV; rw [hm, if_neg (fun c => hg c.2)])
          have B := Lib.hid (show h.b y = true by unfold Cal.Hol.b Cal.inD; rw [hb, E.out, Bool.true_and]; exact decide_eq_true hi)
          obtain ⟨i0, i1⟩ := hi
          have hg1 : decide (5 ≤ Cal.wd (h.pl y)) = false := decide_eq_false hg
          have C := Lib.hid (place_any h y hv y0 y1)
          rw [hm, hb] at C
          clear hm hb
          go_enter Tryz.func82, Tryz.ntmps82
          go_wp2_with fail
          refine (C.out _ (HL _)).mono ?_
          rintro e w1 ⟨rfl, hb1⟩
          have q : w1.cell? ⟨w.heap.size, 5, none⟩ = some (.bool true) := cellB (by go_simp) hb1
          have hB : Below w.heap.size w w1 := (Below.alloc (Below.refl _ _) (Nat.le_refl _) _).trans (hb1.mono (by simp))
          clear hb1 HL
          go_wp2_with (first | (go_at_call 70; (with_reducible refine (weekday_any _ (by omega) (by omega) _).mono ?_); rintro e w' ⟨rfl, rfl⟩) | (go_at_call 67; (with_reducible refine (within_yes _ _ _ (by omega) (by omega) _).mono ?_); rintro e w' ⟨rfl, rfl⟩))
          go_ret2
          exact Ret2.of rfl E.out B.out hB
        · have E := Lib.hid (show h.v y = h.pl y by unfold Cal.Hol.v Cal.mvV; rw [hm, if_neg (fun c => hg c.2)])
          have B := Lib.hid (show h.b y = false by unfold Cal.Hol.b Cal.inD; rw [hb, E.out, Bool.true_and]; exact decide_eq_false hi)
          have hi' : h.pl y < 0 ∨ 84005 < h.pl y := by omega
          clear hi
          have hg1 : decide (5 ≤ Cal.wd (h.pl y)) = false := decide_eq_false hg
          have C := Lib.hid (place_any h y hv y0 y1)
          rw [hm, hb] at C
          clear hm hb
          go_enter Tryz.func82, Tryz.ntmps82
          go_wp2_with fail
          refine (C.out _ (HL _)).mono ?_
          rintro e w1 ⟨rfl, hb1⟩
          have q : w1.cell? ⟨w.heap.size, 5, none⟩ = some (.bool true) := cellB (by go_simp) hb1
          have hB : Below w.heap.size w w1 := (Below.alloc (Below.refl _ _) (Nat.le_refl _) _).trans (hb1.mono (by simp))
          clear hb1 HL
          go_wp2_with (first | (go_at_call 70; (with_reducible refine (weekday_any _ (by omega) (by omega) _).mono ?_); rintro e w' ⟨rfl, rfl⟩) | (go_at_call 67; (with_reducible refine (within_no _ _ _ hi' _).mono ?_); rintro e w' ⟨rfl, rfl⟩))
          go_ret2
          exact Ret2.of rfl E.out B.out hB
end Go.Proofs.YtmgglcfndhfceaaGreatDoor
