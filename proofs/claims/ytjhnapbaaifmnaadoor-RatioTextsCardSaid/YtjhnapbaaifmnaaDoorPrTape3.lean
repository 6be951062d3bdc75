/-
  The generator's Fraction: whatever the tape holds, a fraction whose parts are small. New: a tape on a list of choices. Condition: the tape's block reads as a tape.
-/
import Derived.Test.YtjhnapbaaifmnaaDoorPrTape2
namespace Go.Proofs.YtjhnapbaaifmnaaDoor.Tp
open Go Go.RowKit Go.Lib Go.Proofs.YtjhnapbaaifmnaaDoor

def FracR (b : Nat) (w : World) (e : Ending) (w' : World) : Prop := ∃ n d : Int, e = .returned (.agg #[.int .i64 n, .int .i64 d]) ∧ -2000000000000 ≤ n ∧ n ≤ 2000000000000 ∧ -2000000 ≤ d ∧ d ≤ 2000000 ∧ TapeAt b w' ∧ Only b w w'
theorem three (w : World) (x y z : Int) (t : TypeId) : ∀ i, i < ([x, y, z] : List Int).length → (w.alloc (.cells #[.int .i64 x, .int .i64 y, .int .i64 z] t)).cell? ⟨w.heap.size, i, none⟩ = some (.int .i64 (([x, y, z] : List Int).getD i 0)) := by
  intro i hi
  rcases i with _ | _ | _ | i
  · go_simp
  · go_simp
  · go_simp
  · simp at hi; omega

set_option maxRecDepth 100000 in
set_option maxHeartbeats 4000000 in
theorem frac_any (b : Nat) (w : World) (h : TapeAt b w) :
    Calls Tryd.prog 15 #[.pointer (some ⟨b, 0, none⟩)] w (FracR b w) := by
  have hb := h.lt
  have hne : w.heap.size ≠ b := by omega
  go_enter Tryd.func15, Tryd.ntmps15
  go_wp2_with fail
  have R0 := Res.new w 0 0 23
  have T0 := TapeAt.alloc h (.cells #[.int .i64 0, .int .i64 0] 23)
  refine (ratio_any b _ T0).mono ?_
  rintro e w1 ⟨n, d, rfl, hv, T1, O1⟩
  have R1 := R0.only hne O1
  obtain ⟨p7, p8, p9, p10⟩ := vld_bd hv
  clear R0 T0
  have O01 : Only b w w1 := ((Only.refl b w).alloc _).trans O1
  clear O1
  have q1 : b ≠ w1.heap.size := by have := T1.lt; omega
  have hb1 : b < w1.heap.size := T1.lt
  go_wp2_with fail
  have Q1 := Res.new w1 n d 23
  have T1a := TapeAt.alloc T1 (.cells #[.int .i64 n, .int .i64 d] 23)
  have R1a := R1.alloc (.cells #[.int .i64 n, .int .i64 d] 23)
  have z1 : w.heap.size < w1.heap.size := World.block_lt_of_cell? w1 _ R1.c0
  refine (next_any b 10 (by omega) (by omega) _ T1a).mono ?_
  rintro e w2 ⟨v, rfl, c1, c2, T2, O2⟩
  have R2 := R1a.only hne O2
  have Q2 := Q1.only (fun e => q1 e.symm) O2
  have O02 : Only b w w2 := (O01.alloc _).trans O2
  have z2 : w.heap.size < w2.heap.size := World.block_lt_of_cell? w2 _ R2.c0
  clear R1 R1a Q1 T1 T1a O2 O01
  rcases (by omega : v = 8 ∨ v = 9 ∨ (v ≠ 8 ∧ v ≠ 9)) with rfl | rfl | ⟨d8, d9⟩
  · obtain ⟨y0, y1, g0, g1⟩ := R2
    obtain ⟨u0, u1, k0, k1⟩ := Q2
    go_wp2_with fail
    have n1 : ¬ w.heap.size = w1.heap.size := by omega
    refine bodyPost_ret (v := .agg #[.int .i64 (2 * n), .int .i64 (2 * d)]) (by simp [results, Tryd.results15, go_sem, y0, y1]) rfl ⟨_, _, rfl, by omega, by omega, by omega, by omega, ?_, ?_⟩
    · exact (((T2.far (p := ⟨w1.heap.size, 0, none⟩) hb1 _).far (p := ⟨w1.heap.size, 1, none⟩) hb1 _).far (p := ⟨w.heap.size, 0, none⟩) hb _).far (p := ⟨w.heap.size, 1, none⟩) hb _
    · exact (((O02.setCell (p := ⟨w1.heap.size, 0, none⟩) (.inr (Nat.le_of_lt z1)) _).setCell (p := ⟨w1.heap.size, 1, none⟩) (.inr (Nat.le_of_lt z1)) _).setCell (p := ⟨w.heap.size, 0, none⟩) (.inr (Nat.le_refl _)) _).setCell (p := ⟨w.heap.size, 1, none⟩) (.inr (Nat.le_refl _)) _
  · go_wp2_with fail
    have S3 := three w2 0 (-1) 1000001 3
    have T2a := T2.alloc (.cells #[.int .i64 0, .int .i64 (-1), .int .i64 1000001] 3)
    have R2a := R2.alloc (.cells #[.int .i64 0, .int .i64 (-1), .int .i64 1000001] 3)
    have Q2a := Q2.alloc (.cells #[.int .i64 0, .int .i64 (-1), .int .i64 1000001] 3)
    refine (pick_any b w2.heap.size [0, -1, 1000001] (by simp) (by simp) (by have := T2.lt; omega) _ T2a S3).mono ?_
    rintro e w3 ⟨q, rfl, m3, T3, O3⟩
    obtain ⟨y0, y1, g0, g1⟩ := R2a.only hne O3
    obtain ⟨u0, u1, k0, k1⟩ := Q2a.only (fun e => q1 e.symm) O3
    have O03 : Only b w w3 := (O02.alloc _).trans O3
    have z3 : w.heap.size < w3.heap.size := World.block_lt_of_cell? w3 _ y0
    simp only [List.mem_cons, List.not_mem_nil, or_false] at m3
    clear S3 T2a R2a Q2a O3
    go_wp2_with fail
    have n1 : ¬ w.heap.size = w1.heap.size := by omega
    refine bodyPost_ret (v := .agg #[.int .i64 (n), .int .i64 (q)]) (by simp [results, Tryd.results15, go_sem, y0, y1]) rfl ⟨_, _, rfl, by omega, by omega, by omega, by omega, ?_, ?_⟩
    · exact ((T3.far (p := ⟨w1.heap.size, 1, none⟩) hb1 _).far (p := ⟨w.heap.size, 0, none⟩) hb _).far (p := ⟨w.heap.size, 1, none⟩) hb _
    · exact ((O03.setCell (p := ⟨w1.heap.size, 1, none⟩) (.inr (Nat.le_of_lt z1)) _).setCell (p := ⟨w.heap.size, 0, none⟩) (.inr (Nat.le_refl _)) _).setCell (p := ⟨w.heap.size, 1, none⟩) (.inr (Nat.le_refl _)) _
  · have e8 : (v == 8) = false := by simp; omega
    have e9 : (v == 9) = false := by simp; omega
    obtain ⟨y0, y1, g0, g1⟩ := R2
    obtain ⟨u0, u1, k0, k1⟩ := Q2
    go_wp2_with fail
    refine bodyPost_ret (v := .agg #[.int .i64 n, .int .i64 d]) (by simp [results, Tryd.results15, go_sem, y0, y1]) rfl ⟨_, _, rfl, by omega, by omega, by omega, by omega, ?_, ?_⟩
    · exact (T2.far (p := ⟨w.heap.size, 0, none⟩) hb _).far (p := ⟨w.heap.size, 1, none⟩) hb _
    · exact (O02.setCell (p := ⟨w.heap.size, 0, none⟩) (.inr (Nat.le_refl _)) _).setCell (p := ⟨w.heap.size, 1, none⟩) (.inr (Nat.le_refl _)) _

/-- A slice of ints that came in, as a walk is told of it. -/
def IsRow (w : World) (a : Option Addr) (len cap : Nat) (zs : List Int) : Prop :=
  (a = none ∧ len = 0 ∧ cap = 0 ∧ zs = []) ∨
  ∃ x, a = some x ∧ len ≤ cap ∧ cap ≤ maxLen ∧ zs.length = cap ∧ (∀ i, i < zs.length → w.cell? (x.add i) = some (.int .i64 (zs.getD i 0))) ∧ ∀ n ∈ zs, (Lit.int .i64 n).wf = true
theorem lit_bd {n : Int} (h : (Lit.int .i64 n).wf = true) : -9223372036854775808 ≤ n ∧ n ≤ 9223372036854775807 := by
  simp [Lit.wf, IntKind.min, IntKind.max, IntKind.signed, IntKind.bits] at h; omega
theorem tape_new {w : World} {a : Option Addr} {len cap : Nat} {zs : List Int} (h : IsRow w a len cap zs) (hl : len ≤ 9223372036854775807) (t : TypeId) :
    TapeAt w.heap.size (w.alloc (.cells #[.slice a len cap, .int .i64 0] t)) := by
  refine ⟨a, len, cap, zs, 0, by go_simp, by go_simp, by go_simp, Nat.zero_le _, hl, ?_⟩
  rcases h with ⟨rfl, rfl, _, _⟩ | ⟨x, rfl, h1, h2, h3, h4, h5⟩
  · exact .inl rfl
  · rcases Nat.eq_zero_or_pos len with h0 | h0
    · exact .inl h0
    · refine .inr ⟨x, rfl, ?_, fun i hi => ⟨?_, ?_⟩⟩
      · have := World.block_lt_of_cell? w _ (h4 0 (by omega))
        rwa [add_block] at this
      · exact ((Below.alloc (Below.refl w.heap.size w) (Nat.le_refl _) _).cell (World.block_lt_of_cell? w _ (h4 i (by omega)))).trans (h4 i (by omega))
      · exact lit_bd (h5 _ (by
          have hi2 : i < zs.length := by omega
          have e : zs.getD i 0 = zs[i] := by simp [List.getD, hi2]
          rw [e]; exact List.getElem_mem hi2))

set_option maxHeartbeats 1000000 in
theorem gnew_any (a : Option Addr) (len cap : Nat) (w : World) :
    Calls Tryd.prog 13 #[.slice a len cap] w fun e w' => e = .returned (.pointer (some ⟨w.heap.size, 0, none⟩)) ∧ w' = w.alloc (.cells #[.slice a len cap, .int .i64 0] 54) := by
  go_enter Tryd.func13, Tryd.ntmps13
  go_wp2
  go_ret
  exact ⟨rfl, rfl⟩
end Go.Proofs.YtjhnapbaaifmnaaDoor.Tp
