/-
  The generator's Fraction: whatever the tape holds, a fraction whose parts are small. New: a tape on a list of choices. Condition: the tape's block reads as a tape.
-/
import Derived.Test.YtgkjdaeihjedkaaPrTape2
namespace Go.Proofs.Ytgkjdaeihjedkaa.Tp
open Go Go.RowKit Go.Lib Go.Proofs.Ytgkjdaeihjedkaa

def FracR (b : Nat) (w : World) (e : Ending) (w' : World) : Prop := ∃ n d : Int, e = .returned (.agg #[.int .i64 n, .int .i64 d]) ∧ -2000000000000 ≤ n ∧ n ≤ 2000000000000 ∧ -2000000 ≤ d ∧ d ≤ 2000000 ∧ TapeAt b w' ∧ Only b w w'
theorem three (w : World) (x y z : Int) (t : TypeId) : ∀ i, i < ([x, y, z] : List Int).length → (w.alloc (.cells #[.int .i64 x, .int .i64 y, .int .i64 z] t)).cell? ⟨w.heap.size, i, none⟩ = some (.int .i64 (([x, y, z] : List Int).getD i 0)) := by
  intro i hi
  rcases i with _ | _ | _ | i
  · go_simp
  · go_simp
  · go_simp
  · simp at hi; omega

/-- A slice of ints that came in, as a walk is told of it. -/
def IsRow (w : World) (a : Option Addr) (len cap : Nat) (zs : List Int) : Prop :=
  (a = none ∧ len = 0 ∧ cap = 0 ∧ zs = []) ∨
  ∃ x, a = some x ∧ len ≤ cap ∧ cap ≤ maxLen ∧ zs.length = cap ∧ (∀ i, i < zs.length → w.cell? (x.add i) = some (.int .i64 (zs.getD i 0))) ∧ ∀ n ∈ zs, (Lit.int .i64 n).wf = true
theorem lit_bd {n : Int} (h : (Lit.int .i64 n).wf = true) : -9223372036854775808 ≤ n ∧ n ≤ 9223372036854775807 := by
  simp [Lit.wf, IntKind.min, IntKind.max, IntKind.signed, IntKind.bits] at h; omega
theorem tape_new {w : World} {a : Option Addr} {len cap : Nat} {zs : List Int} (h : IsRow w a len cap zs) (hl : len ≤ 9223372036854775807) (t : TypeId) :
    TapeAt w.heap.size (w.alloc (.cells #[.slice a len cap, .int .i64 0] t)) := by
  refine ⟨a, len, cap, zs, 0, by go_simp, by go_simp, by go_simp, Nat.zero_le _, hl, ?_⟩
  rcases h with ⟨rfl, rfl, _, _⟩ | ⟨x, rfl, h1, h2, h3, h4, h5⟩
  · exact .inl rfl
  · rcases Nat.eq_zero_or_pos len with h0 | h0
    · exact .inl h0
    · refine .inr ⟨x, rfl, ?_, fun i hi => ⟨?_, ?_⟩⟩
      · have := World.block_lt_of_cell? w _ (h4 0 (by omega))
        rwa [add_block] at this
      · exact ((Below.alloc (Below.refl w.heap.size w) (Nat.le_refl _) _).cell (World.block_lt_of_cell? w _ (h4 i (by omega)))).trans (h4 i (by omega))
      · exact lit_bd (h5 _ (by
          have hi2 : i < zs.length := by omega
          have e : zs.getD i 0 = zs[i] := by simp [List.getD, hi2]
          rw [e]; exact List.getElem_mem hi2))

set_option maxHeartbeats 1000000 in
theorem gnew_any (a : Option Addr) (len cap : Nat) (w : World) :
    Calls Try.prog 5 #[.slice a len cap] w fun e w' => e = .returned (.pointer (some ⟨w.heap.size, 0, none⟩)) ∧ w' = w.alloc (.cells #[.slice a len cap, .int .i64 0] 37) := by
  go_enter Try.func5, Try.ntmps5
  go_wp2
  go_ret
  exact ⟨rfl, rfl⟩
end Go.Proofs.Ytgkjdaeihjedkaa.Tp
