/-
  ClockFirst returns true: First is the least instant at which the local clock shows the minute or a later one. Condition: the tape's cells hold ints.
-/
import Derived.Test.YtbbfkpkibakieaaPrZk2
namespace Go.Proofs.Ytbbfkpkibakieaa
open Go Go.RowKit Go.Lib Go.Proofs.Ytbbfkpkibakieaa.Tp

set_option maxRecDepth 100000 in
set_option maxHeartbeats 4000000 in
theorem first_walk (a : Option Addr) (len cap : Nat) (zs : List Int) (w : World) (hrow : IsRow w a len cap zs) (hl : len ≤ 9223372036854775807) :
    Calls Try.prog 6 #[.slice a len cap] w (RetB true w) := by
  have T0 := tape_new hrow hl 50
  have O0 := (Only.refl w.heap.size w).alloc (.cells #[.slice a len cap, .int .i64 0] 50)
  have hs0 : w.heap.size < (w.alloc (.cells #[.slice a len cap, .int .i64 0] 50)).heap.size := by simp
  go_enter Try.func6, Try.ntmps6
  go_wp2_with fail
  refine (gnew_any _ _ _ _).mono ?_
  rintro e w1 ⟨rfl, hw1⟩
  rw [← hw1] at T0 O0 hs0
  clear hw1
  go_wp2_with fail
  refine (gzone_any w.heap.size _ T0).mono ?_
  rintro e w2 ⟨off, za, zn, zc, cs, rfl, hv, hn, R2, N2, T2, O2⟩
  have K3 := ZK.new (w0 := w) (off := off) (cap := zc) R2 (fun y hy => by have := N2 y hy; omega) T2 (O0.trans O2)
  clear R2 N2 T2 O2 T0 O0
  go_wp2_with fail
  refine (gnear_any w.heap.size _ K3.tape).mono ?_
  rintro e w4 ⟨v4, rfl, a4, b4, T4, O4⟩
  have K4 := K3.step T4 O4
  clear K3 T4 O4
  go_wp2_with fail
  refine (next_any w.heap.size 2000 (by omega) (by omega) _ K4.tape).mono ?_
  rintro e w5 ⟨v5, rfl, a5, b5, T5, O5⟩
  have K5 := K4.step T5 O5
  clear K4 T5 O5
  obtain ⟨x, hx, x0, x1, x2, x3⟩ := first_law (v4 + v5 - 1000) hv (by omega) (by omega)
  have C1 := first_any off za zn zc cs (v4 + v5 - 1000) (by omega)
  rw [hx, hv] at C1
  have C2 := local_any off za zn zc cs x (by omega)
  rw [vAE_ok hv (by omega) (by omega)] at C2
  have C3 := local_any off za zn zc cs (x - 1) (by omega)
  rw [vAE_ok hv (by omega) (by omega)] at C3
  have y3 := x3 (x - 1) (by omega) (by omega)
  have H1 := Lib.hid C1
  have H2 := Lib.hid C2
  have H3 := Lib.hid C3
  have H4 := Lib.hid (fun t => local_any off za zn zc cs t (by omega))
  have HV := Lib.hid hv
  have HX := Lib.hid x3
  clear C1 C2 C3 x3 hx hv
  generalize lV off cs x = lx at *
  generalize lV off cs (x - 1) = ly at *
  have z0 := K5.box.c0
  have z1 := K5.box.c1
  go_wp2_with fail
  refine (H1.out _ K5.row).mono ?_
  rintro e w6 ⟨rfl, h6⟩
  have K6 := K5.below h6
  clear z0 z1 K5 h6
  have z0 := K6.box.c0
  have z1 := K6.box.c1
  go_wp2_with fail
  refine (H2.out _ K6.row).mono ?_
  rintro e w7 ⟨rfl, h7⟩
  have K7 := K6.below h7
  clear z0 z1 K6 h7
  have z0 := K7.box.c0
  have z1 := K7.box.c1
  go_wp2_with fail
  refine (H3.out _ K7.row).mono ?_
  rintro e w8 ⟨rfl, h8⟩
  have K8 := K7.below h8
  clear z0 z1 K7 h8
  go_wp2_with fail
  refine (next_any w.heap.size 4000 (by omega) (by omega) _ K8.tape).mono ?_
  rintro e w9 ⟨v9, rfl, a9, b9, T9, O9⟩
  have K9 := K8.step T9 O9
  clear K8 T9 O9
  have m0 := modT_lo v9 x (by omega)
  have m1 := modT_hi v9 x (by omega)
  have hM := mod_any v9 x (by omega) (by omega) x0 (by omega)
  have HM := Lib.hid hM
  clear hM
  generalize modT v9 x = m at *
  have y4 := HX.out (x - 1 - m) (by omega) (by omega)
  have C4 := H4.out (x - 1 - m)
  rw [vAE_ok HV.out (by omega) (by omega)] at C4
  have H5 := Lib.hid C4
  clear C4
  generalize lV off cs (x - 1 - m) = lz at *
  have z0 := K9.box.c0
  have z1 := K9.box.c1
  go_wp2_with fail
  refine (HM.out _).mono ?_
  rintro e w10 ⟨rfl, rfl⟩
  go_wp2_with fail
  rw [show min m (x - 1) = m by omega]
  refine (H5.out _ K9.row).mono ?_
  rintro e w11 ⟨rfl, h11⟩
  have K11 := K9.below h11
  clear z0 z1 K9 h11
  go_wp2_with fail
  refine (sane_any _).mono ?_
  rintro e w12 ⟨rfl, h12⟩
  have K12 := K11.below h12
  go_wp2
  go_ret
  exact ⟨rfl, K12.fin (Nat.le_refl _)⟩
end Go.Proofs.Ytbbfkpkibakieaa
