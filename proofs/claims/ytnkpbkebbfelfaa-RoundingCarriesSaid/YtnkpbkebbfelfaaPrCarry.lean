/-
  Layer 2 (rounding): contracts of Cents and Carry and of the reference's. Conditions: the parts of the fractions and the mode fit their kinds.
-/
import Derived.Test.YtnkpbkebbfelfaaPrRound
import Derived.Test.YtnkpbkebbfelfaaPrTape3
namespace Go.Proofs.Ytnkpbkebbfelfaa
open Go Go.RowKit Go.Lib
set_option linter.unusedVariables false

theorem cutT_bd (neg : Bool) (x y : Nat) : (-1000000000000 ≤ (cutT neg x y).1 ∧ (cutT neg x y).1 ≤ 1000000000000) ∧ (0 ≤ (cutT neg x y).2.1 ∧ (cutT neg x y).2.1 ≤ 1000000) := by
  unfold cutT
  split
  · simp
  · cases neg <;> simp <;> omega
theorem newT_bd (n d : Int) : (-1000000000000 ≤ (newT n d).1 ∧ (newT n d).1 ≤ 1000000000000) ∧ (0 ≤ (newT n d).2.1 ∧ (newT n d).2.1 ≤ 1000000) := by
  unfold newT
  split
  · simp
  · exact cutT_bd _ _ _
theorem addT_bd (a b c d : Int) : (-1000000000000 ≤ (addT a b c d).1 ∧ (addT a b c d).1 ≤ 1000000000000) ∧ (0 ≤ (addT a b c d).2.1 ∧ (addT a b c d).2.1 ≤ 1000000) := by
  unfold addT
  split
  · exact newT_bd _ _
  · simp
theorem subT_bd (a b c d : Int) : (-1000000000000 ≤ (subT a b c d).1 ∧ (subT a b c d).1 ≤ 1000000000000) ∧ (0 ≤ (subT a b c d).2.1 ∧ (subT a b c d).2.1 ≤ 1000000) := by
  unfold subT
  split
  · exact newT_bd _ _
  · simp
theorem roundT_bd (a b c d m : Int) : (-1000000000000 ≤ (roundT a b c d m).1 ∧ (roundT a b c d m).1 ≤ 1000000000000) ∧ (0 ≤ (roundT a b c d m).2.1 ∧ (roundT a b c d m).2.1 ≤ 1000000) := by
  unfold roundT
  split
  · split
    · exact newT_bd _ _
    · simp
  · simp

def carryT (a b c d e f m : Int) : Int × Int × Int × Int × Int :=
  if (addT a b c d).2.2 = 0 then
    (if (roundT (addT a b c d).1 (addT a b c d).2.1 e f m).2.2 = 0 then
      (if (subT (addT a b c d).1 (addT a b c d).2.1 (roundT (addT a b c d).1 (addT a b c d).2.1 e f m).1 (roundT (addT a b c d).1 (addT a b c d).2.1 e f m).2.1).2.2 = 0 then
        ((roundT (addT a b c d).1 (addT a b c d).2.1 e f m).1, (roundT (addT a b c d).1 (addT a b c d).2.1 e f m).2.1, (subT (addT a b c d).1 (addT a b c d).2.1 (roundT (addT a b c d).1 (addT a b c d).2.1 e f m).1 (roundT (addT a b c d).1 (addT a b c d).2.1 e f m).2.1).1, (subT (addT a b c d).1 (addT a b c d).2.1 (roundT (addT a b c d).1 (addT a b c d).2.1 e f m).1 (roundT (addT a b c d).1 (addT a b c d).2.1 e f m).2.1).2.1, 0)
      else (0, 0, 0, 0, (subT (addT a b c d).1 (addT a b c d).2.1 (roundT (addT a b c d).1 (addT a b c d).2.1 e f m).1 (roundT (addT a b c d).1 (addT a b c d).2.1 e f m).2.1).2.2))
    else (0, 0, 0, 0, (roundT (addT a b c d).1 (addT a b c d).2.1 e f m).2.2))
  else (0, 0, 0, 0, (addT a b c d).2.2)
theorem carry_1 {a b c d e f m s1 s2 s3 : Int} (h : addT a b c d = (s1, s2, s3)) (k : s3 ≠ 0) : carryT a b c d e f m = (0, 0, 0, 0, s3) := by unfold carryT; rw [h]; rw [if_neg k]
theorem carry_2 {a b c d e f m s1 s2 r1 r2 r3 : Int} (h : addT a b c d = (s1, s2, 0)) (h2 : roundT s1 s2 e f m = (r1, r2, r3)) (k : r3 ≠ 0) : carryT a b c d e f m = (0, 0, 0, 0, r3) := by
  unfold carryT; rw [h]; dsimp only; rw [if_pos rfl, h2]; dsimp only; rw [if_neg k]
theorem carry_3 {a b c d e f m s1 s2 r1 r2 l1 l2 l3 : Int} (h : addT a b c d = (s1, s2, 0)) (h2 : roundT s1 s2 e f m = (r1, r2, 0)) (h3 : subT s1 s2 r1 r2 = (l1, l2, l3)) (k : l3 ≠ 0) : carryT a b c d e f m = (0, 0, 0, 0, l3) := by
  unfold carryT; rw [h]; dsimp only; rw [if_pos rfl, h2]; dsimp only; rw [if_pos rfl, h3]; dsimp only; rw [if_neg k]
theorem carry_4 {a b c d e f m s1 s2 r1 r2 l1 l2 : Int} (h : addT a b c d = (s1, s2, 0)) (h2 : roundT s1 s2 e f m = (r1, r2, 0)) (h3 : subT s1 s2 r1 r2 = (l1, l2, 0)) : carryT a b c d e f m = (r1, r2, l1, l2, 0) := by
  unfold carryT; rw [h]; dsimp only; rw [if_pos rfl, h2]; dsimp only; rw [if_pos rfl, h3]; rfl
theorem bd_of {t : Int × Int × Int} {x y z : Int} (h : t = (x, y, z)) (b : (-1000000000000 ≤ t.1 ∧ t.1 ≤ 1000000000000) ∧ (0 ≤ t.2.1 ∧ t.2.1 ≤ 1000000)) : (-1000000000000 ≤ x ∧ x ≤ 1000000000000) ∧ (0 ≤ y ∧ y ≤ 1000000) := by rw [h] at b; exact b
def retC (t : Int × Int × Int × Int × Int) : Value := .tuple #[.agg #[.int .i64 t.1, .int .i64 t.2.1], .agg #[.int .i64 t.2.2.1, .int .i64 t.2.2.2.1], .int .i64 t.2.2.2.2]
theorem boxed5 (w : World) (a b c d e : Obj) : Below w.heap.size w (((((w.alloc a).alloc b).alloc c).alloc d).alloc e) :=
  Below.alloc (Below.alloc (boxed3 w a b c) (by simp <;> omega) _) (by simp <;> omega) _

set_option maxHeartbeats 2000000 in
theorem cents_any (a b m : Int) (ha0 : -9223372036854775808 ≤ a) (ha1 : a ≤ 9223372036854775807) (hb0 : -9223372036854775808 ≤ b) (hb1 : b ≤ 9223372036854775807) (hm0 : -9223372036854775808 ≤ m) (hm1 : m ≤ 9223372036854775807) (w : World) :
    Calls Try.prog 37 #[.agg #[.int .i64 a, .int .i64 b], .int .i64 m] w fun e w' => e = .returned (.tuple #[.int .i64 (roundT a b 1 1 m).1, .int .i64 (roundT a b 1 1 m).2.2]) ∧ Below w.heap.size w w' := by
  obtain ⟨r1, r2, r3, hr⟩ : ∃ x y z, roundT a b 1 1 m = (x, y, z) := ⟨_, _, _, rfl⟩
  have hc := fun w => round_any a b 1 1 m ha0 ha1 hb0 hb1 (by omega) (by omega) (by omega) (by omega) hm0 hm1 w
  rw [hr] at hc ⊢
  have HC := Lib.hid hc
  clear hr hc
  go_enter Try.func37, Try.ntmps37
  go_wp2_with fail
  refine (HC.out _).mono ?_
  rintro e w1 ⟨rfl, hw1⟩
  have hB1 : Below w.heap.size w w1 := (boxed1 _ _).trans (hw1.mono (by simp <;> omega))
  go_wp2_with fail
  go_ret2
  exact ⟨rfl, by repeat (first | exact Below.refl _ _ | assumption | refine below_drewN ?_ _ | refine Below.setCell ?_ (by simp <;> omega) _ | refine Below.alloc ?_ (by have := hB1.size; simp <;> omega) _)⟩

set_option maxHeartbeats 2000000 in
theorem rcents_any (a b m : Int) (ha0 : -9223372036854775808 ≤ a) (ha1 : a ≤ 9223372036854775807) (hb0 : -9223372036854775808 ≤ b) (hb1 : b ≤ 9223372036854775807) (hm0 : -9223372036854775808 ≤ m) (hm1 : m ≤ 9223372036854775807) (w : World) :
    Calls Try.prog 39 #[.agg #[.int .i64 a, .int .i64 b], .int .i64 m] w fun e w' => e = .returned (.tuple #[.int .i64 (roundT a b 1 1 m).1, .int .i64 (roundT a b 1 1 m).2.2]) ∧ Below w.heap.size w w' := by
  obtain ⟨r1, r2, r3, hr⟩ : ∃ x y z, roundT a b 1 1 m = (x, y, z) := ⟨_, _, _, rfl⟩
  have hc := fun w => rround_any a b 1 1 m ha0 ha1 hb0 hb1 (by omega) (by omega) (by omega) (by omega) hm0 hm1 w
  rw [hr] at hc ⊢
  have HC := Lib.hid hc
  clear hr hc
  go_enter Try.func39, Try.ntmps39
  go_wp2_with fail
  refine (HC.out _).mono ?_
  rintro e w1 ⟨rfl, hw1⟩
  have hB1 : Below w.heap.size w w1 := (boxed1 _ _).trans (hw1.mono (by simp <;> omega))
  go_wp2_with fail
  go_ret2
  exact ⟨rfl, by repeat (first | exact Below.refl _ _ | assumption | refine below_drewN ?_ _ | refine Below.setCell ?_ (by simp <;> omega) _ | refine Below.alloc ?_ (by have := hB1.size; simp <;> omega) _)⟩

set_option maxRecDepth 100000 in
set_option maxHeartbeats 8000000 in
theorem carry_any (a b c d e f m : Int) (ha0 : -9223372036854775808 ≤ a) (ha1 : a ≤ 9223372036854775807) (hb0 : -9223372036854775808 ≤ b) (hb1 : b ≤ 9223372036854775807) (hc0 : -9223372036854775808 ≤ c) (hc1 : c ≤ 9223372036854775807) (hd0 : -9223372036854775808 ≤ d) (hd1 : d ≤ 9223372036854775807) (he0 : -9223372036854775808 ≤ e) (he1 : e ≤ 9223372036854775807) (hf0 : -9223372036854775808 ≤ f) (hf1 : f ≤ 9223372036854775807) (hm0 : -9223372036854775808 ≤ m) (hm1 : m ≤ 9223372036854775807) (w : World) :
    Calls Try.prog 32 #[.agg #[.int .i64 a, .int .i64 b], .agg #[.int .i64 c, .int .i64 d], .agg #[.int .i64 e, .int .i64 f], .int .i64 m] w fun e' w' => e' = .returned (.tuple #[.agg #[.int .i64 (carryT a b c d e f m).1, .int .i64 (carryT a b c d e f m).2.1], .agg #[.int .i64 (carryT a b c d e f m).2.2.1, .int .i64 (carryT a b c d e f m).2.2.2.1], .int .i64 (carryT a b c d e f m).2.2.2.2]) ∧ Below w.heap.size w w' := by
  obtain ⟨s1, s2, s3, hs⟩ : ∃ x y z, addT a b c d = (x, y, z) := ⟨_, _, _, rfl⟩
  obtain ⟨b1, b2⟩ := bd_of hs (addT_bd a b c d)
  have hA := fun w => add_any a b c d ha0 ha1 hb0 hb1 hc0 hc1 hd0 hd1 w
  simp only [hs] at hA
  have HA := Lib.hid hA
  clear hA
  have HR : Hid (Tp.Res (((((w.alloc (.cells #[.int .i64 a, .int .i64 b] 35)).alloc (.cells #[.int .i64 c, .int .i64 d] 35)).alloc (.cells #[.int .i64 e, .int .i64 f] 35)).alloc (.cells #[.int .i64 0, .int .i64 0] 35)).alloc (.cells #[.int .i64 0, .int .i64 0] 35)) w.heap.size a b ∧ Tp.Res (((((w.alloc (.cells #[.int .i64 a, .int .i64 b] 35)).alloc (.cells #[.int .i64 c, .int .i64 d] 35)).alloc (.cells #[.int .i64 e, .int .i64 f] 35)).alloc (.cells #[.int .i64 0, .int .i64 0] 35)).alloc (.cells #[.int .i64 0, .int .i64 0] 35)) (w.heap.size + 1) c d ∧ Tp.Res (((((w.alloc (.cells #[.int .i64 a, .int .i64 b] 35)).alloc (.cells #[.int .i64 c, .int .i64 d] 35)).alloc (.cells #[.int .i64 e, .int .i64 f] 35)).alloc (.cells #[.int .i64 0, .int .i64 0] 35)).alloc (.cells #[.int .i64 0, .int .i64 0] 35)) (w.heap.size + 1 + 1) e f ∧ Tp.Res (((((w.alloc (.cells #[.int .i64 a, .int .i64 b] 35)).alloc (.cells #[.int .i64 c, .int .i64 d] 35)).alloc (.cells #[.int .i64 e, .int .i64 f] 35)).alloc (.cells #[.int .i64 0, .int .i64 0] 35)).alloc (.cells #[.int .i64 0, .int .i64 0] 35)) (w.heap.size + 1 + 1 + 1) 0 0 ∧ Tp.Res (((((w.alloc (.cells #[.int .i64 a, .int .i64 b] 35)).alloc (.cells #[.int .i64 c, .int .i64 d] 35)).alloc (.cells #[.int .i64 e, .int .i64 f] 35)).alloc (.cells #[.int .i64 0, .int .i64 0] 35)).alloc (.cells #[.int .i64 0, .int .i64 0] 35)) (w.heap.size + 1 + 1 + 1 + 1) 0 0) :=
    Lib.hid ⟨⟨by go_simp, by go_simp, by go_simp, by go_simp⟩, ⟨by go_simp, by go_simp, by go_simp, by go_simp⟩, ⟨by go_simp, by go_simp, by go_simp, by go_simp⟩, ⟨by go_simp, by go_simp, by go_simp, by go_simp⟩, ⟨by go_simp, by go_simp, by go_simp, by go_simp⟩⟩
  by_cases k1 : s3 = 0
  case neg =>
    have H := Lib.hid (carry_1 (e := e) (f := f) (m := m) hs k1)
    have k1' : (s3 != 0) = true := by simp [k1]
    clear hs k1
    go_enter Try.func32, Try.ntmps32
    go_wp2_with fail
    refine (HA.out _).mono ?_
    rintro e1 w1 ⟨rfl, hw1⟩
    have hB1 : Below w.heap.size w w1 := (boxed5 _ _ _ _ _ _).trans (hw1.mono (by simp <;> omega))
    have z1 : w.heap.size + 4 < w1.heap.size := by have := hw1.size; simp at this; omega
    have z12 : w.heap.size + 1 + 1 < w1.heap.size := by omega
    have z13 : w.heap.size + 1 + 1 + 1 < w1.heap.size := by omega
    have z14 : w.heap.size + 1 + 1 + 1 + 1 < w1.heap.size := by omega
    clear z1
    have R2 := Lib.hid (HR.out.2.2.1.below hw1)
    have R3 := Lib.hid (HR.out.2.2.2.1.below hw1)
    have R4 := Lib.hid (HR.out.2.2.2.2.below hw1)
    clear hw1
    obtain ⟨u20, u21, f20, f21⟩ := R2.out
    obtain ⟨u30, u31, f30, f31⟩ := R3.out
    obtain ⟨u40, u41, f40, f41⟩ := R4.out
    go_wp2_with fail
    refine bodyPost_ret (v := retC (carryT a b c d e f m)) (by rw [H.out]; simp [results, Try.results32, go_sem, retC, *]) rfl ⟨rfl, ?_⟩
    repeat (first | exact Below.refl _ _ | assumption | refine below_drewN ?_ _ | refine Below.setCell ?_ (by simp <;> omega) _ | refine Below.alloc ?_ (by simp <;> omega) _)
  subst k1
  obtain ⟨r1, r2, r3, hr⟩ : ∃ x y z, roundT s1 s2 e f m = (x, y, z) := ⟨_, _, _, rfl⟩
  obtain ⟨b3, b4⟩ := bd_of hr (roundT_bd s1 s2 e f m)
  have hB := fun w => round_any s1 s2 e f m (by omega) (by omega) (by omega) (by omega) he0 he1 hf0 hf1 hm0 hm1 w
  simp only [hr] at hB
  have HB := Lib.hid hB
  clear hB
  by_cases k2 : r3 = 0
  case neg =>
    have H := Lib.hid (carry_2 hs hr k2)
    have k2' : (r3 != 0) = true := by simp [k2]
    clear hs hr k2
    go_enter Try.func32, Try.ntmps32
    go_wp2_with fail
    refine (HA.out _).mono ?_
    rintro e1 w1 ⟨rfl, hw1⟩
    have hB1 : Below w.heap.size w w1 := (boxed5 _ _ _ _ _ _).trans (hw1.mono (by simp <;> omega))
    have z1 : w.heap.size + 4 < w1.heap.size := by have := hw1.size; simp at this; omega
    have z12 : w.heap.size + 1 + 1 < w1.heap.size := by omega
    have z13 : w.heap.size + 1 + 1 + 1 < w1.heap.size := by omega
    have z14 : w.heap.size + 1 + 1 + 1 + 1 < w1.heap.size := by omega
    clear z1
    have R2 := Lib.hid (HR.out.2.2.1.below hw1)
    have R3 := Lib.hid (HR.out.2.2.2.1.below hw1)
    have R4 := Lib.hid (HR.out.2.2.2.2.below hw1)
    clear hw1
    obtain ⟨u20, u21, f20, f21⟩ := R2.out
    go_wp2_with fail
    refine (HB.out _).mono ?_
    rintro e2 w2 ⟨rfl, hw2⟩
    have hB2 : Below w.heap.size w w2 := (hB1.alloc hB1.size _).trans (hw2.mono (by have := hB1.size; simp; omega))
    have y0 : w1.heap.size < w2.heap.size := by have := hw2.size; simp at this; omega
    have y1 : w.heap.size + 1 + 1 + 1 < w2.heap.size := by omega
    have y2 : w.heap.size + 1 + 1 + 1 + 1 < w2.heap.size := by omega
    have S1 := Lib.hid ((Tp.Res.new w1 s1 s2 35).below hw2)
    have Q3 := Lib.hid ((R3.out.alloc (.cells #[.int .i64 s1, .int .i64 s2] 35)).below hw2)
    have Q4 := Lib.hid ((R4.out.alloc (.cells #[.int .i64 s1, .int .i64 s2] 35)).below hw2)
    clear u20 u21 f20 f21 hw2 z12 z13 z14 R2 R3 R4
    obtain ⟨uQ30, uQ31, fQ30, fQ31⟩ := Q3.out
    obtain ⟨uQ40, uQ41, fQ40, fQ41⟩ := Q4.out
    go_wp2_with fail
    refine bodyPost_ret (v := retC (carryT a b c d e f m)) (by rw [H.out]; simp [results, Try.results32, go_sem, retC, *]) rfl ⟨rfl, ?_⟩
    repeat (first | exact Below.refl _ _ | assumption | refine below_drewN ?_ _ | refine Below.setCell ?_ (by simp <;> omega) _ | refine Below.alloc ?_ (by simp <;> omega) _)
  subst k2
  obtain ⟨l1, l2, l3, hl⟩ : ∃ x y z, subT s1 s2 r1 r2 = (x, y, z) := ⟨_, _, _, rfl⟩
  obtain ⟨b5, b6⟩ := bd_of hl (subT_bd s1 s2 r1 r2)
  have hD := fun w => sub_any s1 s2 r1 r2 (by omega) (by omega) (by omega) (by omega) (by omega) (by omega) (by omega) (by omega) w
  simp only [hl] at hD
  have HD := Lib.hid hD
  clear hD
  by_cases k3 : l3 = 0
  case neg =>
    have H := Lib.hid (carry_3 hs hr hl k3)
    have k3' : (l3 != 0) = true := by simp [k3]
    clear hs hr hl k3
    go_enter Try.func32, Try.ntmps32
    go_wp2_with fail
    refine (HA.out _).mono ?_
    rintro e1 w1 ⟨rfl, hw1⟩
    have hB1 : Below w.heap.size w w1 := (boxed5 _ _ _ _ _ _).trans (hw1.mono (by simp <;> omega))
    have z1 : w.heap.size + 4 < w1.heap.size := by have := hw1.size; simp at this; omega
    have z12 : w.heap.size + 1 + 1 < w1.heap.size := by omega
    have z13 : w.heap.size + 1 + 1 + 1 < w1.heap.size := by omega
    have z14 : w.heap.size + 1 + 1 + 1 + 1 < w1.heap.size := by omega
    clear z1
    have R2 := Lib.hid (HR.out.2.2.1.below hw1)
    have R3 := Lib.hid (HR.out.2.2.2.1.below hw1)
    have R4 := Lib.hid (HR.out.2.2.2.2.below hw1)
    clear hw1
    obtain ⟨u20, u21, f20, f21⟩ := R2.out
    go_wp2_with fail
    refine (HB.out _).mono ?_
    rintro e2 w2 ⟨rfl, hw2⟩
    have hB2 : Below w.heap.size w w2 := (hB1.alloc hB1.size _).trans (hw2.mono (by have := hB1.size; simp; omega))
    have y0 : w1.heap.size < w2.heap.size := by have := hw2.size; simp at this; omega
    have y1 : w.heap.size + 1 + 1 + 1 < w2.heap.size := by omega
    have y2 : w.heap.size + 1 + 1 + 1 + 1 < w2.heap.size := by omega
    have S1 := Lib.hid ((Tp.Res.new w1 s1 s2 35).below hw2)
    have Q3 := Lib.hid ((R3.out.alloc (.cells #[.int .i64 s1, .int .i64 s2] 35)).below hw2)
    have Q4 := Lib.hid ((R4.out.alloc (.cells #[.int .i64 s1, .int .i64 s2] 35)).below hw2)
    clear u20 u21 f20 f21 hw2 z12 z13 z14 R2 R3 R4
    obtain ⟨uS10, uS11, fS10, fS11⟩ := S1.out
    go_wp2_with fail
    refine (HD.out _).mono ?_
    rintro e3 w3 ⟨rfl, hw3⟩
    have hB3 : Below w.heap.size w w3 := (hB2.alloc hB2.size _).trans (hw3.mono (by have := hB2.size; simp; omega))
    have x0 : w2.heap.size < w3.heap.size := by have := hw3.size; simp at this; omega
    have x1 : w.heap.size + 1 + 1 + 1 < w3.heap.size := by omega
    have x2 : w.heap.size + 1 + 1 + 1 + 1 < w3.heap.size := by omega
    have T1 := Lib.hid ((Tp.Res.new w2 r1 r2 35).below hw3)
    have P3 := Lib.hid ((Q3.out.alloc (.cells #[.int .i64 r1, .int .i64 r2] 35)).below hw3)
    have P4 := Lib.hid ((Q4.out.alloc (.cells #[.int .i64 r1, .int .i64 r2] 35)).below hw3)
    clear uS10 uS11 fS10 fS11 hw3 y0 Q3 Q4
    obtain ⟨uP30, uP31, fP30, fP31⟩ := P3.out
    obtain ⟨uP40, uP41, fP40, fP41⟩ := P4.out
    go_wp2_with fail
    refine bodyPost_ret (v := retC (carryT a b c d e f m)) (by rw [H.out]; simp [results, Try.results32, go_sem, retC, *]) rfl ⟨rfl, ?_⟩
    repeat (first | exact Below.refl _ _ | assumption | refine below_drewN ?_ _ | refine Below.setCell ?_ (by simp <;> omega) _ | refine Below.alloc ?_ (by simp <;> omega) _)
  subst k3
  have H := Lib.hid (carry_4 hs hr hl)
  clear hs hr hl
  · go_enter Try.func32, Try.ntmps32
    go_wp2_with fail
    refine (HA.out _).mono ?_
    rintro e1 w1 ⟨rfl, hw1⟩
    have hB1 : Below w.heap.size w w1 := (boxed5 _ _ _ _ _ _).trans (hw1.mono (by simp <;> omega))
    have z1 : w.heap.size + 4 < w1.heap.size := by have := hw1.size; simp at this; omega
    have z12 : w.heap.size + 1 + 1 < w1.heap.size := by omega
    have z13 : w.heap.size + 1 + 1 + 1 < w1.heap.size := by omega
    have z14 : w.heap.size + 1 + 1 + 1 + 1 < w1.heap.size := by omega
    clear z1
    have R2 := Lib.hid (HR.out.2.2.1.below hw1)
    have R3 := Lib.hid (HR.out.2.2.2.1.below hw1)
    have R4 := Lib.hid (HR.out.2.2.2.2.below hw1)
    clear hw1
    obtain ⟨u20, u21, f20, f21⟩ := R2.out
    go_wp2_with fail
    refine (HB.out _).mono ?_
    rintro e2 w2 ⟨rfl, hw2⟩
    have hB2 : Below w.heap.size w w2 := (hB1.alloc hB1.size _).trans (hw2.mono (by have := hB1.size; simp; omega))
    have y0 : w1.heap.size < w2.heap.size := by have := hw2.size; simp at this; omega
    have y1 : w.heap.size + 1 + 1 + 1 < w2.heap.size := by omega
    have y2 : w.heap.size + 1 + 1 + 1 + 1 < w2.heap.size := by omega
    have S1 := Lib.hid ((Tp.Res.new w1 s1 s2 35).below hw2)
    have Q3 := Lib.hid ((R3.out.alloc (.cells #[.int .i64 s1, .int .i64 s2] 35)).below hw2)
    have Q4 := Lib.hid ((R4.out.alloc (.cells #[.int .i64 s1, .int .i64 s2] 35)).below hw2)
    clear u20 u21 f20 f21 hw2 z12 z13 z14 R2 R3 R4
    obtain ⟨uS10, uS11, fS10, fS11⟩ := S1.out
    go_wp2_with fail
    refine (HD.out _).mono ?_
    rintro e3 w3 ⟨rfl, hw3⟩
    have hB3 : Below w.heap.size w w3 := (hB2.alloc hB2.size _).trans (hw3.mono (by have := hB2.size; simp; omega))
    have x0 : w2.heap.size < w3.heap.size := by have := hw3.size; simp at this; omega
    have x1 : w.heap.size + 1 + 1 + 1 < w3.heap.size := by omega
    have x2 : w.heap.size + 1 + 1 + 1 + 1 < w3.heap.size := by omega
    have T1 := Lib.hid ((Tp.Res.new w2 r1 r2 35).below hw3)
    have P3 := Lib.hid ((Q3.out.alloc (.cells #[.int .i64 r1, .int .i64 r2] 35)).below hw3)
    have P4 := Lib.hid ((Q4.out.alloc (.cells #[.int .i64 r1, .int .i64 r2] 35)).below hw3)
    clear uS10 uS11 fS10 fS11 hw3 y0 Q3 Q4
    obtain ⟨uP30, uP31, fP30, fP31⟩ := P3.out
    obtain ⟨uP40, uP41, fP40, fP41⟩ := P4.out
    obtain ⟨uT10, uT11, fT10, fT11⟩ := T1.out
    go_wp2_with fail
    go_region
    all_goals go_wp2
    all_goals
      refine bodyPost_ret (v := retC (carryT a b c d e f m)) (by rw [H.out]; simp [results, Try.results32, go_sem, retC, *]) rfl ⟨rfl, ?_⟩
      repeat (first | exact Below.refl _ _ | assumption | refine below_drewN ?_ _ | refine Below.setCell ?_ (by simp <;> omega) _ | refine Below.alloc ?_ (by simp <;> omega) _)

set_option maxRecDepth 100000 in
set_option maxHeartbeats 8000000 in
theorem rcarry_any (a b c d e f m : Int) (ha0 : -9223372036854775808 ≤ a) (ha1 : a ≤ 9223372036854775807) (hb0 : -9223372036854775808 ≤ b) (hb1 : b ≤ 9223372036854775807) (hc0 : -9223372036854775808 ≤ c) (hc1 : c ≤ 9223372036854775807) (hd0 : -9223372036854775808 ≤ d) (hd1 : d ≤ 9223372036854775807) (he0 : -9223372036854775808 ≤ e) (he1 : e ≤ 9223372036854775807) (hf0 : -9223372036854775808 ≤ f) (hf1 : f ≤ 9223372036854775807) (hm0 : -9223372036854775808 ≤ m) (hm1 : m ≤ 9223372036854775807) (w : World) :
    Calls Try.prog 40 #[.agg #[.int .i64 a, .int .i64 b], .agg #[.int .i64 c, .int .i64 d], .agg #[.int .i64 e, .int .i64 f], .int .i64 m] w fun e' w' => e' = .returned (.tuple #[.agg #[.int .i64 (carryT a b c d e f m).1, .int .i64 (carryT a b c d e f m).2.1], .agg #[.int .i64 (carryT a b c d e f m).2.2.1, .int .i64 (carryT a b c d e f m).2.2.2.1], .int .i64 (carryT a b c d e f m).2.2.2.2]) ∧ Below w.heap.size w w' := by
  obtain ⟨s1, s2, s3, hs⟩ : ∃ x y z, addT a b c d = (x, y, z) := ⟨_, _, _, rfl⟩
  obtain ⟨b1, b2⟩ := bd_of hs (addT_bd a b c d)
  have hA := fun w => radd_any a b c d ha0 ha1 hb0 hb1 hc0 hc1 hd0 hd1 w
  simp only [hs] at hA
  have HA := Lib.hid hA
  clear hA
  have HR : Hid (Tp.Res (((((w.alloc (.cells #[.int .i64 a, .int .i64 b] 35)).alloc (.cells #[.int .i64 c, .int .i64 d] 35)).alloc (.cells #[.int .i64 e, .int .i64 f] 35)).alloc (.cells #[.int .i64 0, .int .i64 0] 35)).alloc (.cells #[.int .i64 0, .int .i64 0] 35)) w.heap.size a b ∧ Tp.Res (((((w.alloc (.cells #[.int .i64 a, .int .i64 b] 35)).alloc (.cells #[.int .i64 c, .int .i64 d] 35)).alloc (.cells #[.int .i64 e, .int .i64 f] 35)).alloc (.cells #[.int .i64 0, .int .i64 0] 35)).alloc (.cells #[.int .i64 0, .int .i64 0] 35)) (w.heap.size + 1) c d ∧ Tp.Res (((((w.alloc (.cells #[.int .i64 a, .int .i64 b] 35)).alloc (.cells #[.int .i64 c, .int .i64 d] 35)).alloc (.cells #[.int .i64 e, .int .i64 f] 35)).alloc (.cells #[.int .i64 0, .int .i64 0] 35)).alloc (.cells #[.int .i64 0, .int .i64 0] 35)) (w.heap.size + 1 + 1) e f ∧ Tp.Res (((((w.alloc (.cells #[.int .i64 a, .int .i64 b] 35)).alloc (.cells #[.int .i64 c, .int .i64 d] 35)).alloc (.cells #[.int .i64 e, .int .i64 f] 35)).alloc (.cells #[.int .i64 0, .int .i64 0] 35)).alloc (.cells #[.int .i64 0, .int .i64 0] 35)) (w.heap.size + 1 + 1 + 1) 0 0 ∧ Tp.Res (((((w.alloc (.cells #[.int .i64 a, .int .i64 b] 35)).alloc (.cells #[.int .i64 c, .int .i64 d] 35)).alloc (.cells #[.int .i64 e, .int .i64 f] 35)).alloc (.cells #[.int .i64 0, .int .i64 0] 35)).alloc (.cells #[.int .i64 0, .int .i64 0] 35)) (w.heap.size + 1 + 1 + 1 + 1) 0 0) :=
    Lib.hid ⟨⟨by go_simp, by go_simp, by go_simp, by go_simp⟩, ⟨by go_simp, by go_simp, by go_simp, by go_simp⟩, ⟨by go_simp, by go_simp, by go_simp, by go_simp⟩, ⟨by go_simp, by go_simp, by go_simp, by go_simp⟩, ⟨by go_simp, by go_simp, by go_simp, by go_simp⟩⟩
  by_cases k1 : s3 = 0
  case neg =>
    have H := Lib.hid (carry_1 (e := e) (f := f) (m := m) hs k1)
    have k1' : (s3 != 0) = true := by simp [k1]
    clear hs k1
    go_enter Try.func40, Try.ntmps40
    go_wp2_with fail
    refine (HA.out _).mono ?_
    rintro e1 w1 ⟨rfl, hw1⟩
    have hB1 : Below w.heap.size w w1 := (boxed5 _ _ _ _ _ _).trans (hw1.mono (by simp <;> omega))
    have z1 : w.heap.size + 4 < w1.heap.size := by have := hw1.size; simp at this; omega
    have z12 : w.heap.size + 1 + 1 < w1.heap.size := by omega
    have z13 : w.heap.size + 1 + 1 + 1 < w1.heap.size := by omega
    have z14 : w.heap.size + 1 + 1 + 1 + 1 < w1.heap.size := by omega
    clear z1
    have R2 := Lib.hid (HR.out.2.2.1.below hw1)
    have R3 := Lib.hid (HR.out.2.2.2.1.below hw1)
    have R4 := Lib.hid (HR.out.2.2.2.2.below hw1)
    clear hw1
    obtain ⟨u20, u21, f20, f21⟩ := R2.out
    obtain ⟨u30, u31, f30, f31⟩ := R3.out
    obtain ⟨u40, u41, f40, f41⟩ := R4.out
    go_wp2_with fail
    refine bodyPost_ret (v := retC (carryT a b c d e f m)) (by rw [H.out]; simp [results, Try.results40, go_sem, retC, *]) rfl ⟨rfl, ?_⟩
    repeat (first | exact Below.refl _ _ | assumption | refine below_drewN ?_ _ | refine Below.setCell ?_ (by simp <;> omega) _ | refine Below.alloc ?_ (by simp <;> omega) _)
  subst k1
  obtain ⟨r1, r2, r3, hr⟩ : ∃ x y z, roundT s1 s2 e f m = (x, y, z) := ⟨_, _, _, rfl⟩
  obtain ⟨b3, b4⟩ := bd_of hr (roundT_bd s1 s2 e f m)
  have hB := fun w => rround_any s1 s2 e f m (by omega) (by omega) (by omega) (by omega) he0 he1 hf0 hf1 hm0 hm1 w
  simp only [hr] at hB
  have HB := Lib.hid hB
  clear hB
  by_cases k2 : r3 = 0
  case neg =>
    have H := Lib.hid (carry_2 hs hr k2)
    have k2' : (r3 != 0) = true := by simp [k2]
    clear hs hr k2
    go_enter Try.func40, Try.ntmps40
    go_wp2_with fail
    refine (HA.out _).mono ?_
    rintro e1 w1 ⟨rfl, hw1⟩
    have hB1 : Below w.heap.size w w1 := (boxed5 _ _ _ _ _ _).trans (hw1.mono (by simp <;> omega))
    have z1 : w.heap.size + 4 < w1.heap.size := by have := hw1.size; simp at this; omega
    have z12 : w.heap.size + 1 + 1 < w1.heap.size := by omega
    have z13 : w.heap.size + 1 + 1 + 1 < w1.heap.size := by omega
    have z14 : w.heap.size + 1 + 1 + 1 + 1 < w1.heap.size := by omega
    clear z1
    have R2 := Lib.hid (HR.out.2.2.1.below hw1)
    have R3 := Lib.hid (HR.out.2.2.2.1.below hw1)
    have R4 := Lib.hid (HR.out.2.2.2.2.below hw1)
    clear hw1
    obtain ⟨u20, u21, f20, f21⟩ := R2.out
    go_wp2_with fail
    refine (HB.out _).mono ?_
    rintro e2 w2 ⟨rfl, hw2⟩
    have hB2 : Below w.heap.size w w2 := (hB1.alloc hB1.size _).trans (hw2.mono (by have := hB1.size; simp; omega))
    have y0 : w1.heap.size < w2.heap.size := by have := hw2.size; simp at this; omega
    have y1 : w.heap.size + 1 + 1 + 1 < w2.heap.size := by omega
    have y2 : w.heap.size + 1 + 1 + 1 + 1 < w2.heap.size := by omega
    have S1 := Lib.hid ((Tp.Res.new w1 s1 s2 35).below hw2)
    have Q3 := Lib.hid ((R3.out.alloc (.cells #[.int .i64 s1, .int .i64 s2] 35)).below hw2)
    have Q4 := Lib.hid ((R4.out.alloc (.cells #[.int .i64 s1, .int .i64 s2] 35)).below hw2)
    clear u20 u21 f20 f21 hw2 z12 z13 z14 R2 R3 R4
    obtain ⟨uQ30, uQ31, fQ30, fQ31⟩ := Q3.out
    obtain ⟨uQ40, uQ41, fQ40, fQ41⟩ := Q4.out
    go_wp2_with fail
    refine bodyPost_ret (v := retC (carryT a b c d e f m)) (by rw [H.out]; simp [results, Try.results40, go_sem, retC, *]) rfl ⟨rfl, ?_⟩
    repeat (first | exact Below.refl _ _ | assumption | refine below_drewN ?_ _ | refine Below.setCell ?_ (by simp <;> omega) _ | refine Below.alloc ?_ (by simp <;> omega) _)
  subst k2
  obtain ⟨l1, l2, l3, hl⟩ : ∃ x y z, subT s1 s2 r1 r2 = (x, y, z) := ⟨_, _, _, rfl⟩
  obtain ⟨b5, b6⟩ := bd_of hl (subT_bd s1 s2 r1 r2)
  have hD := fun w => rsub_any s1 s2 r1 r2 (by omega) (by omega) (by omega) (by omega) (by omega) (by omega) (by omega) (by omega) w
  simp only [hl] at hD
  have HD := Lib.hid hD
  clear hD
  by_cases k3 : l3 = 0
  case neg =>
    have H := Lib.hid (carry_3 hs hr hl k3)
    have k3' : (l3 != 0) = true := by simp [k3]
    clear hs hr hl k3
    go_enter Try.func40, Try.ntmps40
    go_wp2_with fail
    refine (HA.out _).mono ?_
    rintro e1 w1 ⟨rfl, hw1⟩
    have hB1 : Below w.heap.size w w1 := (boxed5 _ _ _ _ _ _).trans (hw1.mono (by simp <;> omega))
    have z1 : w.heap.size + 4 < w1.heap.size := by have := hw1.size; simp at this; omega
    have z12 : w.heap.size + 1 + 1 < w1.heap.size := by omega
    have z13 : w.heap.size + 1 + 1 + 1 < w1.heap.size := by omega
    have z14 : w.heap.size + 1 + 1 + 1 + 1 < w1.heap.size := by omega
    clear z1
    have R2 := Lib.hid (HR.out.2.2.1.below hw1)
    have R3 := Lib.hid (HR.out.2.2.2.1.below hw1)
    have R4 := Lib.hid (HR.out.2.2.2.2.below hw1)
    clear hw1
    obtain ⟨u20, u21, f20, f21⟩ := R2.out
    go_wp2_with fail
    refine (HB.out _).mono ?_
    rintro e2 w2 ⟨rfl, hw2⟩
    have hB2 : Below w.heap.size w w2 := (hB1.alloc hB1.size _).trans (hw2.mono (by have := hB1.size; simp; omega))
    have y0 : w1.heap.size < w2.heap.size := by have := hw2.size; simp at this; omega
    have y1 : w.heap.size + 1 + 1 + 1 < w2.heap.size := by omega
    have y2 : w.heap.size + 1 + 1 + 1 + 1 < w2.heap.size := by omega
    have S1 := Lib.hid ((Tp.Res.new w1 s1 s2 35).below hw2)
    have Q3 := Lib.hid ((R3.out.alloc (.cells #[.int .i64 s1, .int .i64 s2] 35)).below hw2)
    have Q4 := Lib.hid ((R4.out.alloc (.cells #[.int .i64 s1, .int .i64 s2] 35)).below hw2)
    clear u20 u21 f20 f21 hw2 z12 z13 z14 R2 R3 R4
    obtain ⟨uS10, uS11, fS10, fS11⟩ := S1.out
    go_wp2_with fail
    refine (HD.out _).mono ?_
    rintro e3 w3 ⟨rfl, hw3⟩
    have hB3 : Below w.heap.size w w3 := (hB2.alloc hB2.size _).trans (hw3.mono (by have := hB2.size; simp; omega))
    have x0 : w2.heap.size < w3.heap.size := by have := hw3.size; simp at this; omega
    have x1 : w.heap.size + 1 + 1 + 1 < w3.heap.size := by omega
    have x2 : w.heap.size + 1 + 1 + 1 + 1 < w3.heap.size := by omega
    have T1 := Lib.hid ((Tp.Res.new w2 r1 r2 35).below hw3)
    have P3 := Lib.hid ((Q3.out.alloc (.cells #[.int .i64 r1, .int .i64 r2] 35)).below hw3)
    have P4 := Lib.hid ((Q4.out.alloc (.cells #[.int .i64 r1, .int .i64 r2] 35)).below hw3)
    clear uS10 uS11 fS10 fS11 hw3 y0 Q3 Q4
    obtain ⟨uP30, uP31, fP30, fP31⟩ := P3.out
    obtain ⟨uP40, uP41, fP40, fP41⟩ := P4.out
    go_wp2_with fail
    refine bodyPost_ret (v := retC (carryT a b c d e f m)) (by rw [H.out]; simp [results, Try.results40, go_sem, retC, *]) rfl ⟨rfl, ?_⟩
    repeat (first | exact Below.refl _ _ | assumption | refine below_drewN ?_ _ | refine Below.setCell ?_ (by simp <;> omega) _ | refine Below.alloc ?_ (by simp <;> omega) _)
  subst k3
  have H := Lib.hid (carry_4 hs hr hl)
  clear hs hr hl
  · go_enter Try.func40, Try.ntmps40
    go_wp2_with fail
    refine (HA.out _).mono ?_
    rintro e1 w1 ⟨rfl, hw1⟩
    have hB1 : Below w.heap.size w w1 := (boxed5 _ _ _ _ _ _).trans (hw1.mono (by simp <;> omega))
    have z1 : w.heap.size + 4 < w1.heap.size := by have := hw1.size; simp at this; omega
    have z12 : w.heap.size + 1 + 1 < w1.heap.size := by omega
    have z13 : w.heap.size + 1 + 1 + 1 < w1.heap.size := by omega
    have z14 : w.heap.size + 1 + 1 + 1 + 1 < w1.heap.size := by omega
    clear z1
    have R2 := Lib.hid (HR.out.2.2.1.below hw1)
    have R3 := Lib.hid (HR.out.2.2.2.1.below hw1)
    have R4 := Lib.hid (HR.out.2.2.2.2.below hw1)
    clear hw1
    obtain ⟨u20, u21, f20, f21⟩ := R2.out
    go_wp2_with fail
    refine (HB.out _).mono ?_
    rintro e2 w2 ⟨rfl, hw2⟩
    have hB2 : Below w.heap.size w w2 := (hB1.alloc hB1.size _).trans (hw2.mono (by have := hB1.size; simp; omega))
    have y0 : w1.heap.size < w2.heap.size := by have := hw2.size; simp at this; omega
    have y1 : w.heap.size + 1 + 1 + 1 < w2.heap.size := by omega
    have y2 : w.heap.size + 1 + 1 + 1 + 1 < w2.heap.size := by omega
    have S1 := Lib.hid ((Tp.Res.new w1 s1 s2 35).below hw2)
    have Q3 := Lib.hid ((R3.out.alloc (.cells #[.int .i64 s1, .int .i64 s2] 35)).below hw2)
    have Q4 := Lib.hid ((R4.out.alloc (.cells #[.int .i64 s1, .int .i64 s2] 35)).below hw2)
    clear u20 u21 f20 f21 hw2 z12 z13 z14 R2 R3 R4
    obtain ⟨uS10, uS11, fS10, fS11⟩ := S1.out
    go_wp2_with fail
    refine (HD.out _).mono ?_
    rintro e3 w3 ⟨rfl, hw3⟩
    have hB3 : Below w.heap.size w w3 := (hB2.alloc hB2.size _).trans (hw3.mono (by have := hB2.size; simp; omega))
    have x0 : w2.heap.size < w3.heap.size := by have := hw3.size; simp at this; omega
    have x1 : w.heap.size + 1 + 1 + 1 < w3.heap.size := by omega
    have x2 : w.heap.size + 1 + 1 + 1 + 1 < w3.heap.size := by omega
    have T1 := Lib.hid ((Tp.Res.new w2 r1 r2 35).below hw3)
    have P3 := Lib.hid ((Q3.out.alloc (.cells #[.int .i64 r1, .int .i64 r2] 35)).below hw3)
    have P4 := Lib.hid ((Q4.out.alloc (.cells #[.int .i64 r1, .int .i64 r2] 35)).below hw3)
    clear uS10 uS11 fS10 fS11 hw3 y0 Q3 Q4
    obtain ⟨uP30, uP31, fP30, fP31⟩ := P3.out
    obtain ⟨uP40, uP41, fP40, fP41⟩ := P4.out
    obtain ⟨uT10, uT11, fT10, fT11⟩ := T1.out
    go_wp2_with fail
    go_region
    all_goals go_wp2
    all_goals
      refine bodyPost_ret (v := retC (carryT a b c d e f m)) (by rw [H.out]; simp [results, Try.results40, go_sem, retC, *]) rfl ⟨rfl, ?_⟩
      repeat (first | exact Below.refl _ _ | assumption | refine below_drewN ?_ _ | refine Below.setCell ?_ (by simp <;> omega) _ | refine Below.alloc ?_ (by simp <;> omega) _)
end Go.Proofs.Ytnkpbkebbfelfaa
