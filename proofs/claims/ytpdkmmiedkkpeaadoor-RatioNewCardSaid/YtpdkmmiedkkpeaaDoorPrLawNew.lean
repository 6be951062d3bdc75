/-
  RatioNew, for all integers: New and the reference's New give one fraction and one error, also for denominators from 1 to 1000. No condition but that the listed variables read as the program's text lays them (the card ties them).
-/
import Derived.Test.YtpdkmmiedkkpeaaDoorPrSane
import Derived.Test.YtpdkmmiedkkpeaaDoorCards
import Derived.Test.YtpdkmmiedkkpeaaDoorTie
import Derived.SevenTiedAt
import Derived.OpenShut
import Derived.ChangeOld
import Derived.LaidMore
namespace Go.Proofs.YtpdkmmiedkkpeaaDoor
open Go Go.RowKit Go.Lib

theorem own : ownKnob Tryd.prog.godebug = none := by kernel_rfl
theorem laidOut : laidOutB Tryd.prog = true := by kernel_rfl

set_option maxRecDepth 100000 in
set_option maxHeartbeats 4000000 in
theorem ratioNew_walk (n d : Int) (hn0 : -9223372036854775808 ≤ n) (hn1 : n ≤ 9223372036854775807) (hd0 : -9223372036854775808 ≤ d) (hd1 : d ≤ 9223372036854775807) (w : World) (hok : OKW w) :
    Calls Tryd.prog 3 #[.int .i64 n, .int .i64 d] w fun e w' => e = .returned (.bool true) ∧ Below w.heap.size w w' := by
  have m1 := modT_lo d 1000 (by omega)
  have m2 := modT_hi d 1000 (by omega)
  go_enter Tryd.func3, Tryd.ntmps3
  go_wp2_with fail
  refine (new_any n d hn0 hn1 hd0 hd1 _).mono ?_
  rintro e w1 ⟨rfl, hw1⟩
  have hB1 : Below w.heap.size w w1 := hw1
  go_wp2_with fail
  refine (rnew_any n d hn0 hn1 hd0 hd1 _).mono ?_
  rintro e w2 ⟨rfl, hw2⟩
  have y2_1_0 : w2.cell? ⟨w1.heap.size, 0, none⟩ = some (.int .i64 (newT n d).1) := cell_below (by go_simp) hw2
  have y2_1_1 : w2.cell? ⟨w1.heap.size, 1, none⟩ = some (.int .i64 (newT n d).2.1) := cell_below (by go_simp) hw2
  have z2_1 : w1.heap.size < w2.heap.size := by have := hw2.size; (try simp at this); omega
  have hB2 : Below w.heap.size w w2 := Below.trans (b := _) (Below.alloc hB1 hB1.size _) (hw2.mono (by have := hB1.size; (try simp); omega))
  go_wp2_with fail
  refine (mod_any d 1000 hd0 hd1 (by omega) (by omega) _).mono ?_
  rintro e w' ⟨rfl, rfl⟩
  go_wp2_with fail
  refine (new_any n (modT d 1000 + 1) hn0 hn1 (by omega) (by omega) _).mono ?_
  rintro e w3 ⟨rfl, hw3⟩
  have y3_1_0 : w3.cell? ⟨w1.heap.size, 0, none⟩ = some (.int .i64 (newT n d).1) := cell_below (by go_simp) hw3
  have y3_1_1 : w3.cell? ⟨w1.heap.size, 1, none⟩ = some (.int .i64 (newT n d).2.1) := cell_below (by go_simp) hw3
  have y3_2_0 : w3.cell? ⟨w2.heap.size, 0, none⟩ = some (.int .i64 (newT n d).1) := cell_below (by go_simp) hw3
  have y3_2_1 : w3.cell? ⟨w2.heap.size, 1, none⟩ = some (.int .i64 (newT n d).2.1) := cell_below (by go_simp) hw3
  have z3_1 : w1.heap.size < w3.heap.size := by have := hw3.size; (try simp at this); omega
  have z3_2 : w2.heap.size < w3.heap.size := by have := hw3.size; (try simp at this); omega
  have hB3 : Below w.heap.size w w3 := Below.trans (b := _) (Below.alloc hB2 hB2.size _) (hw3.mono (by have := hB2.size; (try simp); omega))
  clear y2_1_0 y2_1_1
  go_wp2_with fail
  refine (mod_any d 1000 hd0 hd1 (by omega) (by omega) _).mono ?_
  rintro e w' ⟨rfl, rfl⟩
  go_wp2_with fail
  refine (rnew_any n (modT d 1000 + 1) hn0 hn1 (by omega) (by omega) _).mono ?_
  rintro e w4 ⟨rfl, hw4⟩
  have y4_1_0 : w4.cell? ⟨w1.heap.size, 0, none⟩ = some (.int .i64 (newT n d).1) := cell_below (by go_simp) hw4
  have y4_1_1 : w4.cell? ⟨w1.heap.size, 1, none⟩ = some (.int .i64 (newT n d).2.1) := cell_below (by go_simp) hw4
  have y4_2_0 : w4.cell? ⟨w2.heap.size, 0, none⟩ = some (.int .i64 (newT n d).1) := cell_below (by go_simp) hw4
  have y4_2_1 : w4.cell? ⟨w2.heap.size, 1, none⟩ = some (.int .i64 (newT n d).2.1) := cell_below (by go_simp) hw4
  have y4_3_0 : w4.cell? ⟨w3.heap.size, 0, none⟩ = some (.int .i64 (newT n (modT d 1000 + 1)).1) := cell_below (by go_simp) hw4
  have y4_3_1 : w4.cell? ⟨w3.heap.size, 1, none⟩ = some (.int .i64 (newT n (modT d 1000 + 1)).2.1) := cell_below (by go_simp) hw4
  have z4_1 : w1.heap.size < w4.heap.size := by have := hw4.size; (try simp at this); omega
  have z4_2 : w2.heap.size < w4.heap.size := by have := hw4.size; (try simp at this); omega
  have z4_3 : w3.heap.size < w4.heap.size := by have := hw4.size; (try simp at this); omega
  have hB4 : Below w.heap.size w w4 := Below.trans (b := _) (Below.alloc hB3 hB3.size _) (hw4.mono (by have := hB3.size; (try simp); omega))
  clear y3_1_0 y3_1_1 y3_2_0 y3_2_1
  go_wp2_with fail
  refine (sane_any _ (hok.below (Below.alloc hB4 hB4.size _))).mono ?_
  rintro e w5 ⟨rfl, hw5⟩
  have hB5 : Below w.heap.size w w5 := Below.trans (b := _) (Below.alloc hB4 hB4.size _) (hw5.mono (by have := hB4.size; (try simp); omega))
  go_wp2_with fail
  go_ret
  exact ⟨rfl, hB5⟩

/-- The door's own heap meets the condition. -/
theorem door_met (os : Os) (args : Array Value) : laidMetH Tryd.prog [("math/bits.deBruijn32tab", Rows.laid_math_bits_deBruijn32tab), ("math/bits.deBruijn64tab", Rows.laid_math_bits_deBruijn64tab), ("internal/strconv.uint64pow10", Rows.laid_internal_strconv_uint64pow10), ("strconv.ErrRange", Rows.laid_strconv_ErrRange), ("strconv.ErrSyntax", Rows.laid_strconv_ErrSyntax)] ((World.doorLaid Tryd.prog 400 os).forCall (fun _ _ => 0) ⟨#[], args, []⟩).memory :=
  laidMetH_of_parts3 (fuel := 8) (laidMet_of_run' 8 (by kernel_rfl) (by kernel_rfl)) (by kernel_rfl) (by kernel_rfl)

theorem i64_wf {a : Int} (h : (Lit.int .i64 a).wf = true) : -9223372036854775808 ≤ a ∧ a ≤ 9223372036854775807 := by
  simp [Lit.wf, IntKind.min, IntKind.max, IntKind.signed, IntKind.bits] at h; omega

open Go.ChangeShapes Go.WideShapes Go.ChangeAt in
set_option maxRecDepth 100000 in
theorem ratioNew_lifted (os : Os) (started : os.Started) (H : Type) (enc : TypeId × Value → H) :
    ReturnsInHanded {} Tryd.checked os 3 .any (fun w args => (Rows.ratioNewSpec.pre enc Tryd.prog Tryd.f3 [] false w args ∧ laidMetH Tryd.prog [("math/bits.deBruijn32tab", Rows.laid_math_bits_deBruijn32tab), ("math/bits.deBruijn64tab", Rows.laid_math_bits_deBruijn64tab), ("internal/strconv.uint64pow10", Rows.laid_internal_strconv_uint64pow10), ("strconv.ErrRange", Rows.laid_strconv_ErrRange), ("strconv.ErrSyntax", Rows.laid_strconv_ErrSyntax)] w) ∧ sizedMet enc Tryd.prog Tryd.f3 (OpenSpec.ofChange Rows.ratioNewSpec) false w args)
      (Rows.ratioNewSpec.post enc Tryd.prog Tryd.f3 false true false false) := by
  refine returnsInHanded_of_change_and (C := Tryd.checked) (X := fun w _ => laidMetH Tryd.prog [("math/bits.deBruijn32tab", Rows.laid_math_bits_deBruijn32tab), ("math/bits.deBruijn64tab", Rows.laid_math_bits_deBruijn64tab), ("internal/strconv.uint64pow10", Rows.laid_internal_strconv_uint64pow10), ("strconv.ErrRange", Rows.laid_strconv_ErrRange), ("strconv.ErrSyntax", Rows.laid_strconv_ErrSyntax)] w) (fun _ _ _ hh h => h.of_heap hh) own started (by kernel_rfl) Tryd.func3
    (ChangeSpec.witness_shaped (enc := enc) (C := Tryd.checked) (os := os) (X := fun w _ => laidMetH Tryd.prog [("math/bits.deBruijn32tab", Rows.laid_math_bits_deBruijn32tab), ("math/bits.deBruijn64tab", Rows.laid_math_bits_deBruijn64tab), ("internal/strconv.uint64pow10", Rows.laid_internal_strconv_uint64pow10), ("strconv.ErrRange", Rows.laid_strconv_ErrRange), ("strconv.ErrSyntax", Rows.laid_strconv_ErrSyntax)] w) false (World.doorLaid Tryd.prog 400 os) #[.int .i64 0, .int .i64 0] 8 rfl (World.shaped_of_RefB (by kernel_rfl) (by kernel_rfl)) (by kernel_rfl) (by kernel_rfl) (by kernel_rfl) (door_met os _)) ?_
  intro W base args ds gs before hval0 hW _ _ hL _
  have hval : ∀ (j : Nat) t v, Tryd.f3.params[j]? = some t → args[j]? = some v → Value.okWide Tryd.prog W .any base t v := hval0
  have hW' := hW
  obtain ⟨p, q, hA0, hV, rfl, hfz, hnd⟩ := hW
  have hA : DataW.TrodAll enc Tryd.prog W 0 (fun _ => true) true Tryd.f3.params.toList args.toList ds p := hA0
  rw [Tryd.params3] at hA hval
  obtain ⟨v0, vs0, d0, ds0, p0, q0, hargs, rfl, rfl, h0, r0⟩ := trodAll_cons hA
  obtain ⟨v1, vs1, d1, ds1, p1, q1, rfl, rfl, rfl, h1, r1⟩ := trodAll_cons r0
  obtain ⟨rfl, rfl, rfl⟩ := trodAll_nil r1
  obtain rfl : args = #[v0, v1] := by cases args; simp_all
  obtain ⟨rfl, rfl⟩ := trodVars_none hV
  obtain ⟨a0, rfl, rfl, rfl, w0⟩ := open_int Tryd.underlying3 (hval 0 3 v0 rfl rfl) h0
  obtain ⟨a1, rfl, rfl, rfl, w1⟩ := open_int Tryd.underlying3 (hval 1 3 v1 rfl rfl) h1
  clear hA0 hval0
  simp only [List.append_nil] at hW'
  refine (ratioNew_walk a0 a1 (i64_wf w0).1 (i64_wf w0).2 (i64_wf w1).1 (i64_wf w1).2 W (okw_of_laid hL)).mono fun e W' ⟨he, bel⟩ => ?_
  subst he
  exact ⟨_, rfl, _, _, _, [], _, [], hW', trodAll_mk1 (shut_bool Tryd.underlying4 _), (trodAll_cons_mk (shut_int Tryd.underlying3 w0) (trodAll_cons_mk (shut_int Tryd.underlying3 w1) trodAll_mk0)), rfl, bel.frame _, fun h => by cases h⟩

theorem ratioNew_over : Rows.RatioNewSaid :=
  OpenClaim.holds_of_wide 3 Tryd.f3 rfl rfl rfl rfl rfl rfl rfl ⟨rfl, rfl, rfl, rfl, rfl⟩ rfl rfl rfl rfl rfl (by kernel_rfl) Tryd.func3 (by kernel_rfl)
    (of_decide_eq_true (by kernel_rfl)) (by unfold Func.isWrapper; first | (rw [if_pos (by decide +kernel)]; kernel_rfl) | (rw [if_neg (by decide +kernel)]; exact ⟨rfl, rfl⟩))
    (fun os started H enc _ => ratioNew_lifted os started H enc)

theorem ratioNew_proved : Rows.RatioNewCardSaid :=
  Claim7.holds_tied_plain_at .later [] [.data, .data, .data, .sentinel, .sentinel] true _ true
    ratioNew_over (fun _ h => by cases h) (by kernel_rfl) (fun _ h => by cases h) ratioNew_row_tie rfl ⟨rfl, rfl⟩ (by kernel_rfl) rfl
    (fun f fn hf hfn => by
      obtain rfl : f = 3 := Option.some.inj ((show Tryd.prog.funcNamed Rows.ratioNewRow.func = some 3 by kernel_rfl).symm.trans hf) |>.symm
      obtain rfl : fn = Tryd.f3 := (Option.some.inj (Tryd.func3.symm.trans hfn)).symm
      exact ⟨by kernel_rfl, fun j t ht => by
        rw [Tryd.params3] at ht
        have h3 : t = 3 := by
          rcases j with _ | _ | j
          · simpa using ht.symm
          · simpa using ht.symm
          · simp at ht
        subst h3
        exact (show Tryd.prog.wantsStandIn 3 = false by kernel_rfl)⟩)
    (by kernel_rfl)
#print axioms ratioNew_proved
end Go.Proofs.YtpdkmmiedkkpeaaDoor
