/-
  RatioField: the walk: the laws of arithmetic hold for three made fractions; the answer is true.
-/
import Derived.Test.YtpdkmmiedkkpeaaDoorPrRat2
import Derived.Test.YtpdkmmiedkkpeaaDoorPrSane
import Derived.Test.YtpdkmmiedkkpeaaDoorPrTape3
namespace Go.Proofs.YtpdkmmiedkkpeaaDoor
open Go Go.RowKit Go.Lib Go.Proofs.YtpdkmmiedkkpeaaDoor.Tp

/-- The parts of a result are small. -/
def Sm (t : Int × Int × Int) : Prop := -1000000000000 ≤ t.1 ∧ t.1 ≤ 1000000000000 ∧ 0 ≤ t.2.1 ∧ t.2.1 ≤ 1000000
theorem out_sm (q : Rat) : Sm (outT q) := by
  unfold outT
  split
  · refine ⟨?_, ?_, ?_, ?_⟩ <;> dsimp only <;> omega
  · refine ⟨?_, ?_, ?_, ?_⟩ <;> dsimp only <;> omega
theorem add_sm (a b c d : Int) : Sm (addT a b c d) := by
  cases h : vldB a b
  · have e : addT a b c d = (0, 0, 1) := by unfold addT; rw [h]; rfl
    rw [e]; exact ⟨by decide, by decide, by decide, by decide⟩
  · cases k : vldB c d
    · have e : addT a b c d = (0, 0, 1) := by unfold addT; rw [h, k]; rfl
      rw [e]; exact ⟨by decide, by decide, by decide, by decide⟩
    · rw [addT_out _ _ _ _ h k]; exact out_sm _
theorem mul_sm (a b c d : Int) : Sm (mulT a b c d) := by
  cases h : vldB a b
  · have e : mulT a b c d = (0, 0, 1) := by unfold mulT; rw [h]; rfl
    rw [e]; exact ⟨by decide, by decide, by decide, by decide⟩
  · cases k : vldB c d
    · have e : mulT a b c d = (0, 0, 1) := by unfold mulT; rw [h, k]; rfl
      rw [e]; exact ⟨by decide, by decide, by decide, by decide⟩
    · rw [mulT_out _ _ _ _ h k]; exact out_sm _
theorem field_zero2 (a b c d : Int) (h : vldB a b = true) (k : vldB c d = true) (hc : c = 0) : divT a b c d = (0, 0, 5) := by subst hc; exact field_zero a b d h k
theorem cell_at {w w' : World} {p : Addr} {v : Value} (h : w.cell? p = some v) (hb : Below w.heap.size w w') : w'.cell? p = some v := cell_below h hb

set_option maxRecDepth 100000 in
set_option maxHeartbeats 16000000 in
theorem field_walk (p : Option Addr) (len cap : Nat) (zs : List Int) (w : World) (hr : IsRow w p len cap zs) (hl : len ≤ 9223372036854775807) (hok : OKW w) :
    Calls Tryd.prog 7 #[.slice p len cap] w fun e w' => e = .returned (.bool true) ∧ Below w.heap.size w w' := by
  have T0 := tape_new hr hl 54
  clear hr
  go_enter Tryd.func7, Tryd.ntmps7
  go_wp2_with fail
  refine (gnew_any _ _ _ _).mono ?_
  rintro e w' ⟨rfl, rfl⟩
  go_wp2_with fail
  refine (ratio_any w.heap.size _ T0).mono ?_
  rintro e w1 ⟨a, b, rfl, hv1, T1, O1⟩
  have O01 : Only w.heap.size w w1 := ((Only.refl _ _).alloc _).trans O1
  go_wp2_with fail
  refine (ratio_any w.heap.size _ T1).mono ?_
  rintro e w2 ⟨c, d, rfl, hv2, T2, O2⟩
  go_wp2_with fail
  refine (ratio_any w.heap.size _ T2).mono ?_
  rintro e w3 ⟨f, g, rfl, hv3, T3, O3⟩
  have hB3 : Below w.heap.size w w3 := ((O01.trans O2).trans O3).below (Nat.le_refl _) (Nat.le_refl _)
  have hok3 := hok.below hB3
  obtain ⟨a2, a3, a0, a1⟩ := vld_bd hv1
  obtain ⟨c2, c3, c0, c1⟩ := vld_bd hv2
  obtain ⟨e2, e3, e0, e1⟩ := vld_bd hv3
  clear T0 T1 T2 T3 O1 O2 O3 O01
  have X1 := field_add a b c d hv1 hv2
  have X2 := field_mul a b c d hv1 hv2
  have X3 := Lib.hid (field_dist a b c d f g hv1 hv2 hv3)
  have X4 := Lib.hid (field_sub a b c d hv1 hv2)
  have X5 := Lib.hid (field_div a b c d hv1 hv2)
  obtain ⟨m1, m2, m3, m4⟩ := add_sm a b c d
  obtain ⟨n1, n2, n3, n4⟩ := mul_sm a b c d
  obtain ⟨o1, o2, o3, o4⟩ := add_sm c d f g
  obtain ⟨r1, r2, r3, r4⟩ := mul_sm a b f g
  go_wp2_with fail
  refine (add_any a b c d (by omega) (by omega) (by omega) (by omega) (by omega) (by omega) (by omega) (by omega) _).mono ?_
  rintro e w4 ⟨rfl, hw4⟩
  have y4sa0 : w4.cell? ⟨w3.heap.size, 0, none⟩ = some (.int .i64 a) := cell_at (by go_simp) hw4
  have y4sa1 : w4.cell? ⟨w3.heap.size, 1, none⟩ = some (.int .i64 b) := cell_at (by go_simp) hw4
  have z4sa : w3.heap.size < w4.heap.size := World.block_lt_of_cell? w4 _ y4sa0
  have y4sb0 : w4.cell? ⟨w3.heap.size + 1, 0, none⟩ = some (.int .i64 c) := cell_at (by go_simp) hw4
  have y4sb1 : w4.cell? ⟨w3.heap.size + 1, 1, none⟩ = some (.int .i64 d) := cell_at (by go_simp) hw4
  have z4sb : w3.heap.size + 1 < w4.heap.size := World.block_lt_of_cell? w4 _ y4sb0
  have y4sc0 : w4.cell? ⟨w3.heap.size + 1 + 1, 0, none⟩ = some (.int .i64 f) := cell_at (by go_simp) hw4
  have y4sc1 : w4.cell? ⟨w3.heap.size + 1 + 1, 1, none⟩ = some (.int .i64 g) := cell_at (by go_simp) hw4
  have z4sc : w3.heap.size + 1 + 1 < w4.heap.size := World.block_lt_of_cell? w4 _ y4sc0
  have hB4 : Below w.heap.size w w4 := Below.trans (b := _) (((Below.alloc hB3 hB3.size _).alloc (by have := hB3.size; (try simp); omega) _).alloc (by have := hB3.size; (try simp); omega) _) (hw4.mono (by have := hB3.size; (try simp); omega))
  go_wp2_with fail
  refine (add_any c d a b (by omega) (by omega) (by omega) (by omega) (by omega) (by omega) (by omega) (by omega) _).mono ?_
  rw [X1]
  rintro e w5 ⟨rfl, hw5⟩
  have y5sa0 : w5.cell? ⟨w3.heap.size, 0, none⟩ = some (.int .i64 a) := cell_at (by go_simp) hw5
  have y5sa1 : w5.cell? ⟨w3.heap.size, 1, none⟩ = some (.int .i64 b) := cell_at (by go_simp) hw5
  have z5sa : w3.heap.size < w5.heap.size := World.block_lt_of_cell? w5 _ y5sa0
  have y5sb0 : w5.cell? ⟨w3.heap.size + 1, 0, none⟩ = some (.int .i64 c) := cell_at (by go_simp) hw5
  have y5sb1 : w5.cell? ⟨w3.heap.size + 1, 1, none⟩ = some (.int .i64 d) := cell_at (by go_simp) hw5
  have z5sb : w3.heap.size + 1 < w5.heap.size := World.block_lt_of_cell? w5 _ y5sb0
  have y5sc0 : w5.cell? ⟨w3.heap.size + 1 + 1, 0, none⟩ = some (.int .i64 f) := cell_at (by go_simp) hw5
  have y5sc1 : w5.cell? ⟨w3.heap.size + 1 + 1, 1, none⟩ = some (.int .i64 g) := cell_at (by go_simp) hw5
  have z5sc : w3.heap.size + 1 + 1 < w5.heap.size := World.block_lt_of_cell? w5 _ y5sc0
  have y5s40 : w5.cell? ⟨w4.heap.size, 0, none⟩ = some (.int .i64 (addT a b c d).1) := cell_at (by go_simp) hw5
  have y5s41 : w5.cell? ⟨w4.heap.size, 1, none⟩ = some (.int .i64 (addT a b c d).2.1) := cell_at (by go_simp) hw5
  have z5s4 : w4.heap.size < w5.heap.size := World.block_lt_of_cell? w5 _ y5s40
  clear y4sa0 y4sa1 y4sb0 y4sb1 y4sc0 y4sc1
  have hB5 : Below w.heap.size w w5 := Below.trans (b := _) (Below.alloc hB4 hB4.size _) (hw5.mono (by have := hB4.size; (try simp); omega))
  go_wp2_with fail
  refine (mul_any a b c d (by omega) (by omega) (by omega) (by omega) (by omega) (by omega) (by omega) (by omega) _).mono ?_
  rintro e w6 ⟨rfl, hw6⟩
  have y6sa0 : w6.cell? ⟨w3.heap.size, 0, none⟩ = some (.int .i64 a) := cell_at (by go_simp) hw6
  have y6sa1 : w6.cell? ⟨w3.heap.size, 1, none⟩ = some (.int .i64 b) := cell_at (by go_simp) hw6
  have z6sa : w3.heap.size < w6.heap.size := World.block_lt_of_cell? w6 _ y6sa0
  have y6sb0 : w6.cell? ⟨w3.heap.size + 1, 0, none⟩ = some (.int .i64 c) := cell_at (by go_simp) hw6
  have y6sb1 : w6.cell? ⟨w3.heap.size + 1, 1, none⟩ = some (.int .i64 d) := cell_at (by go_simp) hw6
  have z6sb : w3.heap.size + 1 < w6.heap.size := World.block_lt_of_cell? w6 _ y6sb0
  have y6sc0 : w6.cell? ⟨w3.heap.size + 1 + 1, 0, none⟩ = some (.int .i64 f) := cell_at (by go_simp) hw6
  have y6sc1 : w6.cell? ⟨w3.heap.size + 1 + 1, 1, none⟩ = some (.int .i64 g) := cell_at (by go_simp) hw6
  have z6sc : w3.heap.size + 1 + 1 < w6.heap.size := World.block_lt_of_cell? w6 _ y6sc0
  have y6s40 : w6.cell? ⟨w4.heap.size, 0, none⟩ = some (.int .i64 (addT a b c d).1) := cell_at (by go_simp) hw6
  have y6s41 : w6.cell? ⟨w4.heap.size, 1, none⟩ = some (.int .i64 (addT a b c d).2.1) := cell_at (by go_simp) hw6
  have z6s4 : w4.heap.size < w6.heap.size := World.block_lt_of_cell? w6 _ y6s40
  have y6s50 : w6.cell? ⟨w5.heap.size, 0, none⟩ = some (.int .i64 (addT a b c d).1) := cell_at (by go_simp) hw6
  have y6s51 : w6.cell? ⟨w5.heap.size, 1, none⟩ = some (.int .i64 (addT a b c d).2.1) := cell_at (by go_simp) hw6
  have z6s5 : w5.heap.size < w6.heap.size := World.block_lt_of_cell? w6 _ y6s50
  clear y5sa0 y5sa1 y5sb0 y5sb1 y5sc0 y5sc1 y5s40 y5s41
  have hB6 : Below w.heap.size w w6 := Below.trans (b := _) (Below.alloc hB5 hB5.size _) (hw6.mono (by have := hB5.size; (try simp); omega))
  go_wp2_with fail
  refine (mul_any c d a b (by omega) (by omega) (by omega) (by omega) (by omega) (by omega) (by omega) (by omega) _).mono ?_
  rw [X2]
  rintro e w7 ⟨rfl, hw7⟩
  have y7sa0 : w7.cell? ⟨w3.heap.size, 0, none⟩ = some (.int .i64 a) := cell_at (by go_simp) hw7
  have y7sa1 : w7.cell? ⟨w3.heap.size, 1, none⟩ = some (.int .i64 b) := cell_at (by go_simp) hw7
  have z7sa : w3.heap.size < w7.heap.size := World.block_lt_of_cell? w7 _ y7sa0
  have y7sb0 : w7.cell? ⟨w3.heap.size + 1, 0, none⟩ = some (.int .i64 c) := cell_at (by go_simp) hw7
  have y7sb1 : w7.cell? ⟨w3.heap.size + 1, 1, none⟩ = some (.int .i64 d) := cell_at (by go_simp) hw7
  have z7sb : w3.heap.size + 1 < w7.heap.size := World.block_lt_of_cell? w7 _ y7sb0
  have y7sc0 : w7.cell? ⟨w3.heap.size + 1 + 1, 0, none⟩ = some (.int .i64 f) := cell_at (by go_simp) hw7
  have y7sc1 : w7.cell? ⟨w3.heap.size + 1 + 1, 1, none⟩ = some (.int .i64 g) := cell_at (by go_simp) hw7
  have z7sc : w3.heap.size + 1 + 1 < w7.heap.size := World.block_lt_of_cell? w7 _ y7sc0
  have y7s40 : w7.cell? ⟨w4.heap.size, 0, none⟩ = some (.int .i64 (addT a b c d).1) := cell_at (by go_simp) hw7
  have y7s41 : w7.cell? ⟨w4.heap.size, 1, none⟩ = some (.int .i64 (addT a b c d).2.1) := cell_at (by go_simp) hw7
  have z7s4 : w4.heap.size < w7.heap.size := World.block_lt_of_cell? w7 _ y7s40
  have y7s50 : w7.cell? ⟨w5.heap.size, 0, none⟩ = some (.int .i64 (addT a b c d).1) := cell_at (by go_simp) hw7
  have y7s51 : w7.cell? ⟨w5.heap.size, 1, none⟩ = some (.int .i64 (addT a b c d).2.1) := cell_at (by go_simp) hw7
  have z7s5 : w5.heap.size < w7.heap.size := World.block_lt_of_cell? w7 _ y7s50
  have y7s60 : w7.cell? ⟨w6.heap.size, 0, none⟩ = some (.int .i64 (mulT a b c d).1) := cell_at (by go_simp) hw7
  have y7s61 : w7.cell? ⟨w6.heap.size, 1, none⟩ = some (.int .i64 (mulT a b c d).2.1) := cell_at (by go_simp) hw7
  have z7s6 : w6.heap.size < w7.heap.size := World.block_lt_of_cell? w7 _ y7s60
  clear y6sa0 y6sa1 y6sb0 y6sb1 y6sc0 y6sc1 y6s40 y6s41 y6s50 y6s51
  have hB7 : Below w.heap.size w w7 := Below.trans (b := _) (Below.alloc hB6 hB6.size _) (hw7.mono (by have := hB6.size; (try simp); omega))
  go_wp2_with fail
  refine (add_any c d f g (by omega) (by omega) (by omega) (by omega) (by omega) (by omega) (by omega) (by omega) _).mono ?_
  rintro e w8 ⟨rfl, hw8⟩
  have y8sa0 : w8.cell? ⟨w3.heap.size, 0, none⟩ = some (.int .i64 a) := cell_at (by go_simp) hw8
  have y8sa1 : w8.cell? ⟨w3.heap.size, 1, none⟩ = some (.int .i64 b) := cell_at (by go_simp) hw8
  have z8sa : w3.heap.size < w8.heap.size := World.block_lt_of_cell? w8 _ y8sa0
  have y8sb0 : w8.cell? ⟨w3.heap.size + 1, 0, none⟩ = some (.int .i64 c) := cell_at (by go_simp) hw8
  have y8sb1 : w8.cell? ⟨w3.heap.size + 1, 1, none⟩ = some (.int .i64 d) := cell_at (by go_simp) hw8
  have z8sb : w3.heap.size + 1 < w8.heap.size := World.block_lt_of_cell? w8 _ y8sb0
  have y8sc0 : w8.cell? ⟨w3.heap.size + 1 + 1, 0, none⟩ = some (.int .i64 f) := cell_at (by go_simp) hw8
  have y8sc1 : w8.cell? ⟨w3.heap.size + 1 + 1, 1, none⟩ = some (.int .i64 g) := cell_at (by go_simp) hw8
  have z8sc : w3.heap.size + 1 + 1 < w8.heap.size := World.block_lt_of_cell? w8 _ y8sc0
  have y8s40 : w8.cell? ⟨w4.heap.size, 0, none⟩ = some (.int .i64 (addT a b c d).1) := cell_at (by go_simp) hw8
  have y8s41 : w8.cell? ⟨w4.heap.size, 1, none⟩ = some (.int .i64 (addT a b c d).2.1) := cell_at (by go_simp) hw8
  have z8s4 : w4.heap.size < w8.heap.size := World.block_lt_of_cell? w8 _ y8s40
  have y8s50 : w8.cell? ⟨w5.heap.size, 0, none⟩ = some (.int .i64 (addT a b c d).1) := cell_at (by go_simp) hw8
  have y8s51 : w8.cell? ⟨w5.heap.size, 1, none⟩ = some (.int .i64 (addT a b c d).2.1) := cell_at (by go_simp) hw8
  have z8s5 : w5.heap.size < w8.heap.size := World.block_lt_of_cell? w8 _ y8s50
  have y8s60 : w8.cell? ⟨w6.heap.size, 0, none⟩ = some (.int .i64 (mulT a b c d).1) := cell_at (by go_simp) hw8
  have y8s61 : w8.cell? ⟨w6.heap.size, 1, none⟩ = some (.int .i64 (mulT a b c d).2.1) := cell_at (by go_simp) hw8
  have z8s6 : w6.heap.size < w8.heap.size := World.block_lt_of_cell? w8 _ y8s60
  have y8s70 : w8.cell? ⟨w7.heap.size, 0, none⟩ = some (.int .i64 (mulT a b c d).1) := cell_at (by go_simp) hw8
  have y8s71 : w8.cell? ⟨w7.heap.size, 1, none⟩ = some (.int .i64 (mulT a b c d).2.1) := cell_at (by go_simp) hw8
  have z8s7 : w7.heap.size < w8.heap.size := World.block_lt_of_cell? w8 _ y8s70
  clear y7sa0 y7sa1 y7sb0 y7sb1 y7sc0 y7sc1 y7s40 y7s41 y7s50 y7s51 y7s60 y7s61
  have hB8 : Below w.heap.size w w8 := Below.trans (b := _) (Below.alloc hB7 hB7.size _) (hw8.mono (by have := hB7.size; (try simp); omega))
  go_wp2_with fail
  refine (mul_any a b (addT c d f g).1 (addT c d f g).2.1 (by omega) (by omega) (by omega) (by omega) (by omega) (by omega) (by omega) (by omega) _).mono ?_
  rintro e w9 ⟨rfl, hw9⟩
  have y9sa0 : w9.cell? ⟨w3.heap.size, 0, none⟩ = some (.int .i64 a) := cell_at (by go_simp) hw9
  have y9sa1 : w9.cell? ⟨w3.heap.size, 1, none⟩ = some (.int .i64 b) := cell_at (by go_simp) hw9
  have z9sa : w3.heap.size < w9.heap.size := World.block_lt_of_cell? w9 _ y9sa0
  have y9sb0 : w9.cell? ⟨w3.heap.size + 1, 0, none⟩ = some (.int .i64 c) := cell_at (by go_simp) hw9
  have y9sb1 : w9.cell? ⟨w3.heap.size + 1, 1, none⟩ = some (.int .i64 d) := cell_at (by go_simp) hw9
  have z9sb : w3.heap.size + 1 < w9.heap.size := World.block_lt_of_cell? w9 _ y9sb0
  have y9sc0 : w9.cell? ⟨w3.heap.size + 1 + 1, 0, none⟩ = some (.int .i64 f) := cell_at (by go_simp) hw9
  have y9sc1 : w9.cell? ⟨w3.heap.size + 1 + 1, 1, none⟩ = some (.int .i64 g) := cell_at (by go_simp) hw9
  have z9sc : w3.heap.size + 1 + 1 < w9.heap.size := World.block_lt_of_cell? w9 _ y9sc0
  have y9s40 : w9.cell? ⟨w4.heap.size, 0, none⟩ = some (.int .i64 (addT a b c d).1) := cell_at (by go_simp) hw9
  have y9s41 : w9.cell? ⟨w4.heap.size, 1, none⟩ = some (.int .i64 (addT a b c d).2.1) := cell_at (by go_simp) hw9
  have z9s4 : w4.heap.size < w9.heap.size := World.block_lt_of_cell? w9 _ y9s40
  have y9s50 : w9.cell? ⟨w5.heap.size, 0, none⟩ = some (.int .i64 (addT a b c d).1) := cell_at (by go_simp) hw9
  have y9s51 : w9.cell? ⟨w5.heap.size, 1, none⟩ = some (.int .i64 (addT a b c d).2.1) := cell_at (by go_simp) hw9
  have z9s5 : w5.heap.size < w9.heap.size := World.block_lt_of_cell? w9 _ y9s50
  have y9s60 : w9.cell? ⟨w6.heap.size, 0, none⟩ = some (.int .i64 (mulT a b c d).1) := cell_at (by go_simp) hw9
  have y9s61 : w9.cell? ⟨w6.heap.size, 1, none⟩ = some (.int .i64 (mulT a b c d).2.1) := cell_at (by go_simp) hw9
  have z9s6 : w6.heap.size < w9.heap.size := World.block_lt_of_cell? w9 _ y9s60
  have y9s70 : w9.cell? ⟨w7.heap.size, 0, none⟩ = some (.int .i64 (mulT a b c d).1) := cell_at (by go_simp) hw9
  have y9s71 : w9.cell? ⟨w7.heap.size, 1, none⟩ = some (.int .i64 (mulT a b c d).2.1) := cell_at (by go_simp) hw9
  have z9s7 : w7.heap.size < w9.heap.size := World.block_lt_of_cell? w9 _ y9s70
  have y9s80 : w9.cell? ⟨w8.heap.size, 0, none⟩ = some (.int .i64 (addT c d f g).1) := cell_at (by go_simp) hw9
  have y9s81 : w9.cell? ⟨w8.heap.size, 1, none⟩ = some (.int .i64 (addT c d f g).2.1) := cell_at (by go_simp) hw9
  have z9s8 : w8.heap.size < w9.heap.size := World.block_lt_of_cell? w9 _ y9s80
  clear y8sa0 y8sa1 y8sb0 y8sb1 y8sc0 y8sc1 y8s40 y8s41 y8s50 y8s51 y8s60 y8s61 y8s70 y8s71
  have hB9 : Below w.heap.size w w9 := Below.trans (b := _) (Below.alloc hB8 hB8.size _) (hw9.mono (by have := hB8.size; (try simp); omega))
  go_wp2_with fail
  refine (mul_any a b f g (by omega) (by omega) (by omega) (by omega) (by omega) (by omega) (by omega) (by omega) _).mono ?_
  rintro e w10 ⟨rfl, hw10⟩
  have y10sa0 : w10.cell? ⟨w3.heap.size, 0, none⟩ = some (.int .i64 a) := cell_at (by go_simp) hw10
  have y10sa1 : w10.cell? ⟨w3.heap.size, 1, none⟩ = some (.int .i64 b) := cell_at (by go_simp) hw10
  have z10sa : w3.heap.size < w10.heap.size := World.block_lt_of_cell? w10 _ y10sa0
  have y10sb0 : w10.cell? ⟨w3.heap.size + 1, 0, none⟩ = some (.int .i64 c) := cell_at (by go_simp) hw10
  have y10sb1 : w10.cell? ⟨w3.heap.size + 1, 1, none⟩ = some (.int .i64 d) := cell_at (by go_simp) hw10
  have z10sb : w3.heap.size + 1 < w10.heap.size := World.block_lt_of_cell? w10 _ y10sb0
  have y10sc0 : w10.cell? ⟨w3.heap.size + 1 + 1, 0, none⟩ = some (.int .i64 f) := cell_at (by go_simp) hw10
  have y10sc1 : w10.cell? ⟨w3.heap.size + 1 + 1, 1, none⟩ = some (.int .i64 g) := cell_at (by go_simp) hw10
  have z10sc : w3.heap.size + 1 + 1 < w10.heap.size := World.block_lt_of_cell? w10 _ y10sc0
  have y10s40 : w10.cell? ⟨w4.heap.size, 0, none⟩ = some (.int .i64 (addT a b c d).1) := cell_at (by go_simp) hw10
  have y10s41 : w10.cell? ⟨w4.heap.size, 1, none⟩ = some (.int .i64 (addT a b c d).2.1) := cell_at (by go_simp) hw10
  have z10s4 : w4.heap.size < w10.heap.size := World.block_lt_of_cell? w10 _ y10s40
  have y10s50 : w10.cell? ⟨w5.heap.size, 0, none⟩ = some (.int .i64 (addT a b c d).1) := cell_at (by go_simp) hw10
  have y10s51 : w10.cell? ⟨w5.heap.size, 1, none⟩ = some (.int .i64 (addT a b c d).2.1) := cell_at (by go_simp) hw10
  have z10s5 : w5.heap.size < w10.heap.size := World.block_lt_of_cell? w10 _ y10s50
  have y10s60 : w10.cell? ⟨w6.heap.size, 0, none⟩ = some (.int .i64 (mulT a b c d).1) := cell_at (by go_simp) hw10
  have y10s61 : w10.cell? ⟨w6.heap.size, 1, none⟩ = some (.int .i64 (mulT a b c d).2.1) := cell_at (by go_simp) hw10
  have z10s6 : w6.heap.size < w10.heap.size := World.block_lt_of_cell? w10 _ y10s60
  have y10s70 : w10.cell? ⟨w7.heap.size, 0, none⟩ = some (.int .i64 (mulT a b c d).1) := cell_at (by go_simp) hw10
  have y10s71 : w10.cell? ⟨w7.heap.size, 1, none⟩ = some (.int .i64 (mulT a b c d).2.1) := cell_at (by go_simp) hw10
  have z10s7 : w7.heap.size < w10.heap.size := World.block_lt_of_cell? w10 _ y10s70
  have y10s80 : w10.cell? ⟨w8.heap.size, 0, none⟩ = some (.int .i64 (addT c d f g).1) := cell_at (by go_simp) hw10
  have y10s81 : w10.cell? ⟨w8.heap.size, 1, none⟩ = some (.int .i64 (addT c d f g).2.1) := cell_at (by go_simp) hw10
  have z10s8 : w8.heap.size < w10.heap.size := World.block_lt_of_cell? w10 _ y10s80
  have y10s90 : w10.cell? ⟨w9.heap.size, 0, none⟩ = some (.int .i64 (mulT a b (addT c d f g).1 (addT c d f g).2.1).1) := cell_at (by go_simp) hw10
  have y10s91 : w10.cell? ⟨w9.heap.size, 1, none⟩ = some (.int .i64 (mulT a b (addT c d f g).1 (addT c d f g).2.1).2.1) := cell_at (by go_simp) hw10
  have z10s9 : w9.heap.size < w10.heap.size := World.block_lt_of_cell? w10 _ y10s90
  clear y9sa0 y9sa1 y9sb0 y9sb1 y9sc0 y9sc1 y9s40 y9s41 y9s50 y9s51 y9s60 y9s61 y9s70 y9s71 y9s80 y9s81
  have hB10 : Below w.heap.size w w10 := Below.trans (b := _) (Below.alloc hB9 hB9.size _) (hw10.mono (by have := hB9.size; (try simp); omega))
  go_wp2_with fail
  refine (add_any (mulT a b c d).1 (mulT a b c d).2.1 (mulT a b f g).1 (mulT a b f g).2.1 (by omega) (by omega) (by omega) (by omega) (by omega) (by omega) (by omega) (by omega) _).mono ?_
  rintro e w11 ⟨rfl, hw11⟩
  have y11sa0 : w11.cell? ⟨w3.heap.size, 0, none⟩ = some (.int .i64 a) := cell_at (by go_simp) hw11
  have y11sa1 : w11.cell? ⟨w3.heap.size, 1, none⟩ = some (.int .i64 b) := cell_at (by go_simp) hw11
  have z11sa : w3.heap.size < w11.heap.size := World.block_lt_of_cell? w11 _ y11sa0
  have y11sb0 : w11.cell? ⟨w3.heap.size + 1, 0, none⟩ = some (.int .i64 c) := cell_at (by go_simp) hw11
  have y11sb1 : w11.cell? ⟨w3.heap.size + 1, 1, none⟩ = some (.int .i64 d) := cell_at (by go_simp) hw11
  have z11sb : w3.heap.size + 1 < w11.heap.size := World.block_lt_of_cell? w11 _ y11sb0
  have y11sc0 : w11.cell? ⟨w3.heap.size + 1 + 1, 0, none⟩ = some (.int .i64 f) := cell_at (by go_simp) hw11
  have y11sc1 : w11.cell? ⟨w3.heap.size + 1 + 1, 1, none⟩ = some (.int .i64 g) := cell_at (by go_simp) hw11
  have z11sc : w3.heap.size + 1 + 1 < w11.heap.size := World.block_lt_of_cell? w11 _ y11sc0
  have y11s40 : w11.cell? ⟨w4.heap.size, 0, none⟩ = some (.int .i64 (addT a b c d).1) := cell_at (by go_simp) hw11
  have y11s41 : w11.cell? ⟨w4.heap.size, 1, none⟩ = some (.int .i64 (addT a b c d).2.1) := cell_at (by go_simp) hw11
  have z11s4 : w4.heap.size < w11.heap.size := World.block_lt_of_cell? w11 _ y11s40
  have y11s50 : w11.cell? ⟨w5.heap.size, 0, none⟩ = some (.int .i64 (addT a b c d).1) := cell_at (by go_simp) hw11
  have y11s51 : w11.cell? ⟨w5.heap.size, 1, none⟩ = some (.int .i64 (addT a b c d).2.1) := cell_at (by go_simp) hw11
  have z11s5 : w5.heap.size < w11.heap.size := World.block_lt_of_cell? w11 _ y11s50
  have y11s60 : w11.cell? ⟨w6.heap.size, 0, none⟩ = some (.int .i64 (mulT a b c d).1) := cell_at (by go_simp) hw11
  have y11s61 : w11.cell? ⟨w6.heap.size, 1, none⟩ = some (.int .i64 (mulT a b c d).2.1) := cell_at (by go_simp) hw11
  have z11s6 : w6.heap.size < w11.heap.size := World.block_lt_of_cell? w11 _ y11s60
  have y11s70 : w11.cell? ⟨w7.heap.size, 0, none⟩ = some (.int .i64 (mulT a b c d).1) := cell_at (by go_simp) hw11
  have y11s71 : w11.cell? ⟨w7.heap.size, 1, none⟩ = some (.int .i64 (mulT a b c d).2.1) := cell_at (by go_simp) hw11
  have z11s7 : w7.heap.size < w11.heap.size := World.block_lt_of_cell? w11 _ y11s70
  have y11s80 : w11.cell? ⟨w8.heap.size, 0, none⟩ = some (.int .i64 (addT c d f g).1) := cell_at (by go_simp) hw11
  have y11s81 : w11.cell? ⟨w8.heap.size, 1, none⟩ = some (.int .i64 (addT c d f g).2.1) := cell_at (by go_simp) hw11
  have z11s8 : w8.heap.size < w11.heap.size := World.block_lt_of_cell? w11 _ y11s80
  have y11s90 : w11.cell? ⟨w9.heap.size, 0, none⟩ = some (.int .i64 (mulT a b (addT c d f g).1 (addT c d f g).2.1).1) := cell_at (by go_simp) hw11
  have y11s91 : w11.cell? ⟨w9.heap.size, 1, none⟩ = some (.int .i64 (mulT a b (addT c d f g).1 (addT c d f g).2.1).2.1) := cell_at (by go_simp) hw11
  have z11s9 : w9.heap.size < w11.heap.size := World.block_lt_of_cell? w11 _ y11s90
  have y11s100 : w11.cell? ⟨w10.heap.size, 0, none⟩ = some (.int .i64 (mulT a b f g).1) := cell_at (by go_simp) hw11
  have y11s101 : w11.cell? ⟨w10.heap.size, 1, none⟩ = some (.int .i64 (mulT a b f g).2.1) := cell_at (by go_simp) hw11
  have z11s10 : w10.heap.size < w11.heap.size := World.block_lt_of_cell? w11 _ y11s100
  clear y10sa0 y10sa1 y10sb0 y10sb1 y10sc0 y10sc1 y10s40 y10s41 y10s50 y10s51 y10s60 y10s61 y10s70 y10s71 y10s80 y10s81 y10s90 y10s91
  have hB11 : Below w.heap.size w w11 := Below.trans (b := _) (Below.alloc hB10 hB10.size _) (hw11.mono (by have := hB10.size; (try simp); omega))
  go_wp2_with fail
  all_goals
    first
    | (have q := X3.out (by assumption) (by assumption) (by assumption); exact absurd (show (mulT a b (addT c d f g).1 (addT c d f g).2.1).1 = (addT (mulT a b c d).1 (mulT a b c d).2.1 (mulT a b f g).1 (mulT a b f g).2.1).1 by rw [q]) (by assumption))
    | (have q := X3.out (by assumption) (by assumption) (by assumption); exact absurd (show (mulT a b (addT c d f g).1 (addT c d f g).2.1).2.1 = (addT (mulT a b c d).1 (mulT a b c d).2.1 (mulT a b f g).1 (mulT a b f g).2.1).2.1 by rw [q]) (by assumption))
    | skip
  all_goals
    by_cases he : (addT a b c d).2.2 = 0
    · have hez : ((addT a b c d).2.2 == 0) = true := by simp; exact he
      refine (sub_any (addT a b c d).1 (addT a b c d).2.1 c d (by omega) (by omega) (by omega) (by omega) (by omega) (by omega) (by omega) (by omega) _).mono ?_
      rw [X4.out he]
      rintro e w12 ⟨rfl, hw12⟩
      have y12sa0 : w12.cell? ⟨w3.heap.size, 0, none⟩ = some (.int .i64 a) := cell_at (by go_simp) hw12
      have y12sa1 : w12.cell? ⟨w3.heap.size, 1, none⟩ = some (.int .i64 b) := cell_at (by go_simp) hw12
      have z12sa : w3.heap.size < w12.heap.size := World.block_lt_of_cell? w12 _ y12sa0
      have y12sb0 : w12.cell? ⟨w3.heap.size + 1, 0, none⟩ = some (.int .i64 c) := cell_at (by go_simp) hw12
      have y12sb1 : w12.cell? ⟨w3.heap.size + 1, 1, none⟩ = some (.int .i64 d) := cell_at (by go_simp) hw12
      have z12sb : w3.heap.size + 1 < w12.heap.size := World.block_lt_of_cell? w12 _ y12sb0
      have y12sc0 : w12.cell? ⟨w3.heap.size + 1 + 1, 0, none⟩ = some (.int .i64 f) := cell_at (by go_simp) hw12
      have y12sc1 : w12.cell? ⟨w3.heap.size + 1 + 1, 1, none⟩ = some (.int .i64 g) := cell_at (by go_simp) hw12
      have z12sc : w3.heap.size + 1 + 1 < w12.heap.size := World.block_lt_of_cell? w12 _ y12sc0
      have y12s40 : w12.cell? ⟨w4.heap.size, 0, none⟩ = some (.int .i64 (addT a b c d).1) := cell_at (by go_simp) hw12
      have y12s41 : w12.cell? ⟨w4.heap.size, 1, none⟩ = some (.int .i64 (addT a b c d).2.1) := cell_at (by go_simp) hw12
      have z12s4 : w4.heap.size < w12.heap.size := World.block_lt_of_cell? w12 _ y12s40
      have y12s50 : w12.cell? ⟨w5.heap.size, 0, none⟩ = some (.int .i64 (addT a b c d).1) := cell_at (by go_simp) hw12
      have y12s51 : w12.cell? ⟨w5.heap.size, 1, none⟩ = some (.int .i64 (addT a b c d).2.1) := cell_at (by go_simp) hw12
      have z12s5 : w5.heap.size < w12.heap.size := World.block_lt_of_cell? w12 _ y12s50
      have y12s60 : w12.cell? ⟨w6.heap.size, 0, none⟩ = some (.int .i64 (mulT a b c d).1) := cell_at (by go_simp) hw12
      have y12s61 : w12.cell? ⟨w6.heap.size, 1, none⟩ = some (.int .i64 (mulT a b c d).2.1) := cell_at (by go_simp) hw12
      have z12s6 : w6.heap.size < w12.heap.size := World.block_lt_of_cell? w12 _ y12s60
      have y12s70 : w12.cell? ⟨w7.heap.size, 0, none⟩ = some (.int .i64 (mulT a b c d).1) := cell_at (by go_simp) hw12
      have y12s71 : w12.cell? ⟨w7.heap.size, 1, none⟩ = some (.int .i64 (mulT a b c d).2.1) := cell_at (by go_simp) hw12
      have z12s7 : w7.heap.size < w12.heap.size := World.block_lt_of_cell? w12 _ y12s70
      have y12s80 : w12.cell? ⟨w8.heap.size, 0, none⟩ = some (.int .i64 (addT c d f g).1) := cell_at (by go_simp) hw12
      have y12s81 : w12.cell? ⟨w8.heap.size, 1, none⟩ = some (.int .i64 (addT c d f g).2.1) := cell_at (by go_simp) hw12
      have z12s8 : w8.heap.size < w12.heap.size := World.block_lt_of_cell? w12 _ y12s80
      have y12s90 : w12.cell? ⟨w9.heap.size, 0, none⟩ = some (.int .i64 (mulT a b (addT c d f g).1 (addT c d f g).2.1).1) := cell_at (by go_simp) hw12
      have y12s91 : w12.cell? ⟨w9.heap.size, 1, none⟩ = some (.int .i64 (mulT a b (addT c d f g).1 (addT c d f g).2.1).2.1) := cell_at (by go_simp) hw12
      have z12s9 : w9.heap.size < w12.heap.size := World.block_lt_of_cell? w12 _ y12s90
      have y12s100 : w12.cell? ⟨w10.heap.size, 0, none⟩ = some (.int .i64 (mulT a b f g).1) := cell_at (by go_simp) hw12
      have y12s101 : w12.cell? ⟨w10.heap.size, 1, none⟩ = some (.int .i64 (mulT a b f g).2.1) := cell_at (by go_simp) hw12
      have z12s10 : w10.heap.size < w12.heap.size := World.block_lt_of_cell? w12 _ y12s100
      have y12s110 : w12.cell? ⟨w11.heap.size, 0, none⟩ = some (.int .i64 (addT (mulT a b c d).1 (mulT a b c d).2.1 (mulT a b f g).1 (mulT a b f g).2.1).1) := cell_at (by go_simp) hw12
      have y12s111 : w12.cell? ⟨w11.heap.size, 1, none⟩ = some (.int .i64 (addT (mulT a b c d).1 (mulT a b c d).2.1 (mulT a b f g).1 (mulT a b f g).2.1).2.1) := cell_at (by go_simp) hw12
      have z12s11 : w11.heap.size < w12.heap.size := World.block_lt_of_cell? w12 _ y12s110
      clear y11sa0 y11sa1 y11sb0 y11sb1 y11sc0 y11sc1 y11s40 y11s41 y11s50 y11s51 y11s60 y11s61 y11s70 y11s71 y11s80 y11s81 y11s90 y11s91 y11s100 y11s101
      have hB12 : Below w.heap.size w w12 := Below.trans (b := _) (Below.alloc hB11 hB11.size _) (hw12.mono (by have := hB11.size; (try simp); omega))
      by_cases hc : c = 0
      · have hcz : (c == 0) = true := by simp; exact hc
        have HC := Lib.hid hc
        clear hc
        go_wp2_with fail
        refine (rdiv_any a b c d (by omega) (by omega) (by omega) (by omega) (by omega) (by omega) (by omega) (by omega) _).mono ?_
        rw [field_zero2 a b c d hv1 hv2 HC.out]
        rintro e w13 ⟨rfl, hw13⟩
        have hB13 : Below w.heap.size w w13 := Below.trans (b := _) (Below.alloc hB12 hB12.size _) (hw13.mono (by have := hB12.size; (try simp); omega))
        go_wp2_with fail
        refine (sane_any _ (hok.below (by first | exact hB13 | exact Below.alloc hB13 hB13.size _))).mono ?_
        rintro e w14 ⟨rfl, hw14⟩
        have hB14 : Below w.heap.size w w14 := Below.trans (b := _) (by first | exact hB13 | exact Below.alloc hB13 hB13.size _) (hw14.mono (by have := hB13.size; (try simp); omega))
        go_wp2_with fail
        go_ret
        exact ⟨rfl, hB14⟩
      · have hcz : (c == 0) = false := by simp; exact hc
        have HC := Lib.hid hc
        clear hc
        go_wp2_with fail
        by_cases hP : (mulT a b c d).2.2 = 0
        · first
          | exact absurd hP (by assumption)
          | skip
          all_goals
            have hPz : ((mulT a b c d).2.2 == 0) = true := by simp; exact hP
            refine (rdiv_any (mulT a b c d).1 (mulT a b c d).2.1 c d (by omega) (by omega) (by omega) (by omega) (by omega) (by omega) (by omega) (by omega) _).mono ?_
            rw [X5.out HC.out hP]
            rintro e w13 ⟨rfl, hw13⟩
            have hB13 : Below w.heap.size w w13 := Below.trans (b := _) (Below.alloc hB12 hB12.size _) (hw13.mono (by have := hB12.size; (try simp); omega))
            have u0 : w13.cell? ⟨w12.heap.size, 0, none⟩ = some (.int .i64 a) := cell_at (by go_simp) hw13
            have u1 : w13.cell? ⟨w12.heap.size, 1, none⟩ = some (.int .i64 b) := cell_at (by go_simp) hw13
            have v0 : w13.frozen? ⟨w12.heap.size, 0, none⟩ = false := (hw13.frozen (by simp)).trans (by go_simp)
            have v1 : w13.frozen? ⟨w12.heap.size, 1, none⟩ = false := (hw13.frozen (by simp)).trans (by go_simp)
            have s0 : w13.cell? ⟨w3.heap.size, 0, none⟩ = some (.int .i64 a) := cell_at (by go_simp) hw13
            have s1 : w13.cell? ⟨w3.heap.size, 1, none⟩ = some (.int .i64 b) := cell_at (by go_simp) hw13
            go_wp2_with fail
            refine (sane_any _ (hok.below ?_)).mono ?_
            · exact (hB13.setCell (p := ⟨w12.heap.size, 0, none⟩) hB12.size _).setCell (p := ⟨w12.heap.size, 1, none⟩) hB12.size _
            rintro e w14 ⟨rfl, hw14⟩
            have hB14 : Below w.heap.size w w14 := Below.trans (b := _) ((hB13.setCell (p := ⟨w12.heap.size, 0, none⟩) hB12.size _).setCell (p := ⟨w12.heap.size, 1, none⟩) hB12.size _) (hw14.mono (by have := hB13.size; (try simp); omega))
            go_wp2_with fail
            go_ret
            exact ⟨rfl, hB14⟩
        · first
          | exact absurd (by assumption) hP
          | skip
          all_goals
            have hPz : ((mulT a b c d).2.2 == 0) = false := by simp; exact hP
            obtain ⟨qx, qy, qz, hQ⟩ : ∃ x y z, divT (mulT a b c d).1 (mulT a b c d).2.1 c d = (x, y, z) := ⟨_, _, _, rfl⟩
            refine (rdiv_any (mulT a b c d).1 (mulT a b c d).2.1 c d (by omega) (by omega) (by omega) (by omega) (by omega) (by omega) (by omega) (by omega) _).mono ?_
            rw [hQ]
            rintro e w13 ⟨rfl, hw13⟩
            clear hQ
            have hB13 : Below w.heap.size w w13 := Below.trans (b := _) (Below.alloc hB12 hB12.size _) (hw13.mono (by have := hB12.size; (try simp); omega))
            have u0 : w13.cell? ⟨w12.heap.size, 0, none⟩ = some (.int .i64 a) := cell_at (by go_simp) hw13
            have u1 : w13.cell? ⟨w12.heap.size, 1, none⟩ = some (.int .i64 b) := cell_at (by go_simp) hw13
            have v0 : w13.frozen? ⟨w12.heap.size, 0, none⟩ = false := (hw13.frozen (by simp)).trans (by go_simp)
            have v1 : w13.frozen? ⟨w12.heap.size, 1, none⟩ = false := (hw13.frozen (by simp)).trans (by go_simp)
            have s0 : w13.cell? ⟨w3.heap.size, 0, none⟩ = some (.int .i64 a) := cell_at (by go_simp) hw13
            have s1 : w13.cell? ⟨w3.heap.size, 1, none⟩ = some (.int .i64 b) := cell_at (by go_simp) hw13
            go_wp2_with fail
            refine (sane_any _ (hok.below ?_)).mono ?_
            · exact (hB13.setCell (p := ⟨w12.heap.size, 0, none⟩) hB12.size _).setCell (p := ⟨w12.heap.size, 1, none⟩) hB12.size _
            rintro e w14 ⟨rfl, hw14⟩
            have hB14 : Below w.heap.size w w14 := Below.trans (b := _) ((hB13.setCell (p := ⟨w12.heap.size, 0, none⟩) hB12.size _).setCell (p := ⟨w12.heap.size, 1, none⟩) hB12.size _) (hw14.mono (by have := hB13.size; (try simp); omega))
            go_wp2_with fail
            go_ret
            exact ⟨rfl, hB14⟩
    · have hez : ((addT a b c d).2.2 == 0) = false := by simp; exact he
      refine (sub_any (addT a b c d).1 (addT a b c d).2.1 c d (by omega) (by omega) (by omega) (by omega) (by omega) (by omega) (by omega) (by omega) _).mono ?_
      rintro e w12 ⟨rfl, hw12⟩
      have y12sa0 : w12.cell? ⟨w3.heap.size, 0, none⟩ = some (.int .i64 a) := cell_at (by go_simp) hw12
      have y12sa1 : w12.cell? ⟨w3.heap.size, 1, none⟩ = some (.int .i64 b) := cell_at (by go_simp) hw12
      have z12sa : w3.heap.size < w12.heap.size := World.block_lt_of_cell? w12 _ y12sa0
      have y12sb0 : w12.cell? ⟨w3.heap.size + 1, 0, none⟩ = some (.int .i64 c) := cell_at (by go_simp) hw12
      have y12sb1 : w12.cell? ⟨w3.heap.size + 1, 1, none⟩ = some (.int .i64 d) := cell_at (by go_simp) hw12
      have z12sb : w3.heap.size + 1 < w12.heap.size := World.block_lt_of_cell? w12 _ y12sb0
      have y12sc0 : w12.cell? ⟨w3.heap.size + 1 + 1, 0, none⟩ = some (.int .i64 f) := cell_at (by go_simp) hw12
      have y12sc1 : w12.cell? ⟨w3.heap.size + 1 + 1, 1, none⟩ = some (.int .i64 g) := cell_at (by go_simp) hw12
      have z12sc : w3.heap.size + 1 + 1 < w12.heap.size := World.block_lt_of_cell? w12 _ y12sc0
      have y12s40 : w12.cell? ⟨w4.heap.size, 0, none⟩ = some (.int .i64 (addT a b c d).1) := cell_at (by go_simp) hw12
      have y12s41 : w12.cell? ⟨w4.heap.size, 1, none⟩ = some (.int .i64 (addT a b c d).2.1) := cell_at (by go_simp) hw12
      have z12s4 : w4.heap.size < w12.heap.size := World.block_lt_of_cell? w12 _ y12s40
      have y12s50 : w12.cell? ⟨w5.heap.size, 0, none⟩ = some (.int .i64 (addT a b c d).1) := cell_at (by go_simp) hw12
      have y12s51 : w12.cell? ⟨w5.heap.size, 1, none⟩ = some (.int .i64 (addT a b c d).2.1) := cell_at (by go_simp) hw12
      have z12s5 : w5.heap.size < w12.heap.size := World.block_lt_of_cell? w12 _ y12s50
      have y12s60 : w12.cell? ⟨w6.heap.size, 0, none⟩ = some (.int .i64 (mulT a b c d).1) := cell_at (by go_simp) hw12
      have y12s61 : w12.cell? ⟨w6.heap.size, 1, none⟩ = some (.int .i64 (mulT a b c d).2.1) := cell_at (by go_simp) hw12
      have z12s6 : w6.heap.size < w12.heap.size := World.block_lt_of_cell? w12 _ y12s60
      have y12s70 : w12.cell? ⟨w7.heap.size, 0, none⟩ = some (.int .i64 (mulT a b c d).1) := cell_at (by go_simp) hw12
      have y12s71 : w12.cell? ⟨w7.heap.size, 1, none⟩ = some (.int .i64 (mulT a b c d).2.1) := cell_at (by go_simp) hw12
      have z12s7 : w7.heap.size < w12.heap.size := World.block_lt_of_cell? w12 _ y12s70
      have y12s80 : w12.cell? ⟨w8.heap.size, 0, none⟩ = some (.int .i64 (addT c d f g).1) := cell_at (by go_simp) hw12
      have y12s81 : w12.cell? ⟨w8.heap.size, 1, none⟩ = some (.int .i64 (addT c d f g).2.1) := cell_at (by go_simp) hw12
      have z12s8 : w8.heap.size < w12.heap.size := World.block_lt_of_cell? w12 _ y12s80
      have y12s90 : w12.cell? ⟨w9.heap.size, 0, none⟩ = some (.int .i64 (mulT a b (addT c d f g).1 (addT c d f g).2.1).1) := cell_at (by go_simp) hw12
      have y12s91 : w12.cell? ⟨w9.heap.size, 1, none⟩ = some (.int .i64 (mulT a b (addT c d f g).1 (addT c d f g).2.1).2.1) := cell_at (by go_simp) hw12
      have z12s9 : w9.heap.size < w12.heap.size := World.block_lt_of_cell? w12 _ y12s90
      have y12s100 : w12.cell? ⟨w10.heap.size, 0, none⟩ = some (.int .i64 (mulT a b f g).1) := cell_at (by go_simp) hw12
      have y12s101 : w12.cell? ⟨w10.heap.size, 1, none⟩ = some (.int .i64 (mulT a b f g).2.1) := cell_at (by go_simp) hw12
      have z12s10 : w10.heap.size < w12.heap.size := World.block_lt_of_cell? w12 _ y12s100
      have y12s110 : w12.cell? ⟨w11.heap.size, 0, none⟩ = some (.int .i64 (addT (mulT a b c d).1 (mulT a b c d).2.1 (mulT a b f g).1 (mulT a b f g).2.1).1) := cell_at (by go_simp) hw12
      have y12s111 : w12.cell? ⟨w11.heap.size, 1, none⟩ = some (.int .i64 (addT (mulT a b c d).1 (mulT a b c d).2.1 (mulT a b f g).1 (mulT a b f g).2.1).2.1) := cell_at (by go_simp) hw12
      have z12s11 : w11.heap.size < w12.heap.size := World.block_lt_of_cell? w12 _ y12s110
      clear y11sa0 y11sa1 y11sb0 y11sb1 y11sc0 y11sc1 y11s40 y11s41 y11s50 y11s51 y11s60 y11s61 y11s70 y11s71 y11s80 y11s81 y11s90 y11s91 y11s100 y11s101
      have hB12 : Below w.heap.size w w12 := Below.trans (b := _) (Below.alloc hB11 hB11.size _) (hw12.mono (by have := hB11.size; (try simp); omega))
      by_cases hc : c = 0
      · have hcz : (c == 0) = true := by simp; exact hc
        have HC := Lib.hid hc
        clear hc
        go_wp2_with fail
        refine (rdiv_any a b c d (by omega) (by omega) (by omega) (by omega) (by omega) (by omega) (by omega) (by omega) _).mono ?_
        rw [field_zero2 a b c d hv1 hv2 HC.out]
        rintro e w13 ⟨rfl, hw13⟩
        have hB13 : Below w.heap.size w w13 := Below.trans (b := _) (Below.alloc hB12 hB12.size _) (hw13.mono (by have := hB12.size; (try simp); omega))
        go_wp2_with fail
        refine (sane_any _ (hok.below (by first | exact hB13 | exact Below.alloc hB13 hB13.size _))).mono ?_
        rintro e w14 ⟨rfl, hw14⟩
        have hB14 : Below w.heap.size w w14 := Below.trans (b := _) (by first | exact hB13 | exact Below.alloc hB13 hB13.size _) (hw14.mono (by have := hB13.size; (try simp); omega))
        go_wp2_with fail
        go_ret
        exact ⟨rfl, hB14⟩
      · have hcz : (c == 0) = false := by simp; exact hc
        have HC := Lib.hid hc
        clear hc
        go_wp2_with fail
        by_cases hP : (mulT a b c d).2.2 = 0
        · first
          | exact absurd hP (by assumption)
          | skip
          all_goals
            have hPz : ((mulT a b c d).2.2 == 0) = true := by simp; exact hP
            refine (rdiv_any (mulT a b c d).1 (mulT a b c d).2.1 c d (by omega) (by omega) (by omega) (by omega) (by omega) (by omega) (by omega) (by omega) _).mono ?_
            rw [X5.out HC.out hP]
            rintro e w13 ⟨rfl, hw13⟩
            have hB13 : Below w.heap.size w w13 := Below.trans (b := _) (Below.alloc hB12 hB12.size _) (hw13.mono (by have := hB12.size; (try simp); omega))
            have u0 : w13.cell? ⟨w12.heap.size, 0, none⟩ = some (.int .i64 (subT (addT a b c d).1 (addT a b c d).2.1 c d).1) := cell_at (by go_simp) hw13
            have u1 : w13.cell? ⟨w12.heap.size, 1, none⟩ = some (.int .i64 (subT (addT a b c d).1 (addT a b c d).2.1 c d).2.1) := cell_at (by go_simp) hw13
            have v0 : w13.frozen? ⟨w12.heap.size, 0, none⟩ = false := (hw13.frozen (by simp)).trans (by go_simp)
            have v1 : w13.frozen? ⟨w12.heap.size, 1, none⟩ = false := (hw13.frozen (by simp)).trans (by go_simp)
            have s0 : w13.cell? ⟨w3.heap.size, 0, none⟩ = some (.int .i64 a) := cell_at (by go_simp) hw13
            have s1 : w13.cell? ⟨w3.heap.size, 1, none⟩ = some (.int .i64 b) := cell_at (by go_simp) hw13
            go_wp2_with fail
            refine (sane_any _ (hok.below ?_)).mono ?_
            · exact (hB13.setCell (p := ⟨w12.heap.size, 0, none⟩) hB12.size _).setCell (p := ⟨w12.heap.size, 1, none⟩) hB12.size _
            rintro e w14 ⟨rfl, hw14⟩
            have hB14 : Below w.heap.size w w14 := Below.trans (b := _) ((hB13.setCell (p := ⟨w12.heap.size, 0, none⟩) hB12.size _).setCell (p := ⟨w12.heap.size, 1, none⟩) hB12.size _) (hw14.mono (by have := hB13.size; (try simp); omega))
            go_wp2_with fail
            go_ret
            exact ⟨rfl, hB14⟩
        · first
          | exact absurd (by assumption) hP
          | skip
          all_goals
            have hPz : ((mulT a b c d).2.2 == 0) = false := by simp; exact hP
            obtain ⟨qx, qy, qz, hQ⟩ : ∃ x y z, divT (mulT a b c d).1 (mulT a b c d).2.1 c d = (x, y, z) := ⟨_, _, _, rfl⟩
            refine (rdiv_any (mulT a b c d).1 (mulT a b c d).2.1 c d (by omega) (by omega) (by omega) (by omega) (by omega) (by omega) (by omega) (by omega) _).mono ?_
            rw [hQ]
            rintro e w13 ⟨rfl, hw13⟩
            clear hQ
            have hB13 : Below w.heap.size w w13 := Below.trans (b := _) (Below.alloc hB12 hB12.size _) (hw13.mono (by have := hB12.size; (try simp); omega))
            have u0 : w13.cell? ⟨w12.heap.size, 0, none⟩ = some (.int .i64 (subT (addT a b c d).1 (addT a b c d).2.1 c d).1) := cell_at (by go_simp) hw13
            have u1 : w13.cell? ⟨w12.heap.size, 1, none⟩ = some (.int .i64 (subT (addT a b c d).1 (addT a b c d).2.1 c d).2.1) := cell_at (by go_simp) hw13
            have v0 : w13.frozen? ⟨w12.heap.size, 0, none⟩ = false := (hw13.frozen (by simp)).trans (by go_simp)
            have v1 : w13.frozen? ⟨w12.heap.size, 1, none⟩ = false := (hw13.frozen (by simp)).trans (by go_simp)
            have s0 : w13.cell? ⟨w3.heap.size, 0, none⟩ = some (.int .i64 a) := cell_at (by go_simp) hw13
            have s1 : w13.cell? ⟨w3.heap.size, 1, none⟩ = some (.int .i64 b) := cell_at (by go_simp) hw13
            go_wp2_with fail
            refine (sane_any _ (hok.below ?_)).mono ?_
            · exact (hB13.setCell (p := ⟨w12.heap.size, 0, none⟩) hB12.size _).setCell (p := ⟨w12.heap.size, 1, none⟩) hB12.size _
            rintro e w14 ⟨rfl, hw14⟩
            have hB14 : Below w.heap.size w w14 := Below.trans (b := _) ((hB13.setCell (p := ⟨w12.heap.size, 0, none⟩) hB12.size _).setCell (p := ⟨w12.heap.size, 1, none⟩) hB12.size _) (hw14.mono (by have := hB13.size; (try simp); omega))
            go_wp2_with fail
            go_ret
            exact ⟨rfl, hB14⟩
end Go.Proofs.YtpdkmmiedkkpeaaDoor
