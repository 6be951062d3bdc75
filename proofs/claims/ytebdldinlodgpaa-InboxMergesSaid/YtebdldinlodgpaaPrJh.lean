/-
  The generator of inputs: contracts of Key, Near, Event: whatever the tape holds, a valid event of bounded numbers. Condition: the tape's block reads as a tape.
-/
import Derived.Test.YtebdldinlodgpaaPrJg
import Derived.Deep.RegionHeld3
namespace Go.Proofs.Ytebdldinlodgpaa.Rc
open Go Go.RowKit Go.Lib Go.Sort Go.Shelf Go.Proofs Go.Proofs.Ytebdldinlodgpaa Go.Proofs.Ytebdldinlodgpaa.Tp
set_option linter.unusedVariables false

def KyR (b : Nat) (w : World) (r : Ending) (w' : World) : Prop := ∃ t s : Int, r = .returned (.agg #[.int .i64 t, .int .i64 s]) ∧ 0 ≤ t ∧ t ≤ 1 ∧ 0 ≤ s ∧ s ≤ 8 ∧ TapeAt b w' ∧ Only b w w'
set_option maxRecDepth 100000 in
set_option maxHeartbeats 2000000 in
theorem gkey_any (b : Nat) (w : World) (h : TapeAt b w) :
    Calls Try.prog 44 #[.pointer (some ⟨b, 0, none⟩)] w (KyR b w) := by
  have hb := h.lt
  have H0 := Lib.hid (h.alloc (.cells #[.int .i64 0, .int .i64 0] 24))
  have O0 := Lib.hid (Only.alloc (Only.refl b w) (.cells #[.int .i64 0, .int .i64 0] 24))
  have z0 : (w.alloc (.cells #[.int .i64 0, .int .i64 0] 24)).cell? ⟨w.heap.size, 0, none⟩ = some (.int .i64 0) := by go_simp
  have z1 : (w.alloc (.cells #[.int .i64 0, .int .i64 0] 24)).cell? ⟨w.heap.size, 1, none⟩ = some (.int .i64 0) := by go_simp
  have f0 : (w.alloc (.cells #[.int .i64 0, .int .i64 0] 24)).frozen? ⟨w.heap.size, 0, none⟩ = false := World.frozen?_alloc_at _ _ _ _ rfl
  have f1 : (w.alloc (.cells #[.int .i64 0, .int .i64 0] 24)).frozen? ⟨w.heap.size, 1, none⟩ = false := World.frozen?_alloc_at _ _ _ _ rfl
  have hne : w.heap.size ≠ b := by omega
  clear h
  go_enter Try.func44, Try.ntmps44
  go_wp2_with fail
  generalize hwa : w.alloc (.cells #[.int .i64 0, .int .i64 0] 24) = wa at *
  have hsz : w.heap.size < wa.heap.size := by rw [← hwa]; simp
  clear hwa
  refine (next_any b 2 (by omega) (by omega) _ H0.out).mono ?_
  rintro e w1 ⟨t, rfl, t0, t1, T1, O1⟩
  have H1 := Lib.hid T1
  have y0 := O1.cell z0 hne
  have y1 := O1.cell z1 hne
  have g0 := O1.frozen f0 hsz hne
  have g1 := O1.frozen f1 hsz hne
  have P1 := Lib.hid (O0.out.trans O1)
  have s1 : w.heap.size < w1.heap.size := Nat.lt_of_lt_of_le hsz O1.size
  clear T1 O1 H0 O0 z0 z1 f0 f1 hsz
  go_wp2_with fail
  refine (next_any b 9 (by omega) (by omega) _ H1.out).mono ?_
  rintro e w2 ⟨s, rfl, s0, s1', T2, O2⟩
  have H2 := Lib.hid T2
  have x0 := O2.cell y0 hne
  have x1 := O2.cell y1 hne
  have e0 := O2.frozen g0 s1 hne
  have e1 := O2.frozen g1 s1 hne
  have P2 := Lib.hid (P1.out.trans O2)
  have s2 : w.heap.size < w2.heap.size := Nat.lt_of_lt_of_le s1 O2.size
  clear T2 O2 H1 P1 y0 y1 g0 g1 s1
  go_wp2_with fail
  exact bodyPost_ret (v := .agg #[.int .i64 t, .int .i64 s]) (by simp [results, Try.results44, go_sem, x0, x1]) rfl ⟨t, s, rfl, t0, by omega, s0, by omega, (H2.out.far (p := ⟨w.heap.size, 0, none⟩) hb _).far (p := ⟨w.heap.size, 1, none⟩) hb _, (P2.out.setCell (p := ⟨w.heap.size, 0, none⟩) (.inr (Nat.le_refl _)) _).setCell (p := ⟨w.heap.size, 1, none⟩) (.inr (Nat.le_refl _)) _⟩

def NrR (b : Nat) (w : World) (r : Ending) (w' : World) : Prop := ∃ t : Int, r = .returned (.int .i64 t) ∧ 29453760 ≤ t ∧ t ≤ 29468161 ∧ TapeAt b w' ∧ Only b w w'
set_option maxRecDepth 100000 in
set_option maxHeartbeats 2000000 in
theorem near_any (b : Nat) (w : World) (h : TapeAt b w) :
    Calls Try.prog 45 #[.pointer (some ⟨b, 0, none⟩)] w (NrR b w) := by
  go_enter Try.func45, Try.ntmps45
  go_wp2_with fail
  refine (next_any b 10 (by omega) (by omega) _ h).mono ?_
  rintro e w1 ⟨t, rfl, t0, t1, T1, O1⟩
  have P1 := Lib.hid O1
  have H1 := Lib.hid T1
  clear T1 O1
  go_wp2_with fail
  refine (next_any b 97 (by omega) (by omega) _ H1.out).mono ?_
  rintro e w2 ⟨s, rfl, s0, s1, T2, O2⟩
  have P2 := Lib.hid (P1.out.trans O2)
  have H2 := Lib.hid T2
  clear T2 O2 H1
  go_wp2_with fail
  refine (next_any b 8 (by omega) (by omega) _ H2.out).mono ?_
  rintro e w3 ⟨q, rfl, q0, q1, T3, O3⟩
  have P3 := Lib.hid (P2.out.trans O3)
  have H3 := Lib.hid T3
  clear T3 O3 H2
  go_wp2_with fail
  go_ret
  exact ⟨29453760 + t * 1440 + s * 15 + q / 6, rfl, by omega, by omega, H3.out, P3.out⟩
end Go.Proofs.Ytebdldinlodgpaa.Rc
