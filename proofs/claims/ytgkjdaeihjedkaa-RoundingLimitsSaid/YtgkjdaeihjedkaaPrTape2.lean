/-
  The generator's fractions: whatever the tape holds, Ratio returns a valid fraction, and Fraction one whose parts are small. Condition: the tape's block reads as a tape.
-/
import Derived.Test.YtgkjdaeihjedkaaPrTape
namespace Go.Proofs.Ytgkjdaeihjedkaa.Tp
open Go Go.RowKit Go.Lib Go.Proofs.Ytgkjdaeihjedkaa

theorem newT_small (n d : Int) (h0 : -1000000000000 ≤ n) (h1 : n ≤ 1000000000000) (h2 : 1 ≤ d) (h3 : d ≤ 1000000) : (newT n d).2.2 = 0 ∧ vldB (newT n d).1 (newT n d).2.1 = true := by
  have hg : 0 < Nat.gcd n.natAbs d.natAbs := Nat.gcd_pos_of_pos_right _ (by omega)
  have hx : n.natAbs / Nat.gcd n.natAbs d.natAbs ≤ n.natAbs := Nat.div_le_self _ _
  have hy : d.natAbs / Nat.gcd n.natAbs d.natAbs ≤ d.natAbs := Nat.div_le_self _ _
  have hy1 : 0 < d.natAbs / Nat.gcd n.natAbs d.natAbs := Nat.div_pos (Nat.le_of_dvd (by omega) (Nat.gcd_dvd_right _ _)) hg
  have hc : Nat.gcd (n.natAbs / Nat.gcd n.natAbs d.natAbs) (d.natAbs / Nat.gcd n.natAbs d.natAbs) = 1 := Nat.coprime_div_gcd_div_gcd hg
  have e := newT_fit n d _ _ (by omega) rfl rfl
  unfold fitT at e
  generalize n.natAbs / Nat.gcd n.natAbs d.natAbs = x at *
  generalize d.natAbs / Nat.gcd n.natAbs d.natAbs = y at *
  rw [cutT_ok _ _ _ (by omega) (by omega)] at e
  rw [e]
  refine ⟨rfl, vld_mk ?_ ?_⟩
  · dsimp only
    split <;> omega
  · dsimp only
    split
    · rw [Int.natAbs_neg, Int.natAbs_natCast, Int.natAbs_natCast]; exact hc
    · rw [Int.natAbs_natCast, Int.natAbs_natCast]; exact hc

/-- A new cell block of a result: two ints, not frozen. -/
structure Res (w : World) (s : Nat) (x y : Int) : Prop where
  c0 : w.cell? ⟨s, 0, none⟩ = some (.int .i64 x)
  c1 : w.cell? ⟨s, 1, none⟩ = some (.int .i64 y)
  f0 : w.frozen? ⟨s, 0, none⟩ = false
  f1 : w.frozen? ⟨s, 1, none⟩ = false
theorem Res.only {u w : World} {s b : Nat} {x y : Int} (h : Res u s x y) (hn : s ≠ b) (ho : Only b u w) : Res w s x y :=
  ⟨ho.cell h.c0 hn, ho.cell h.c1 hn, ho.frozen h.f0 (World.block_lt_of_cell? u _ h.c0) hn, ho.frozen h.f1 (World.block_lt_of_cell? u _ h.c1) hn⟩
theorem Res.below {u w : World} {s : Nat} {x y : Int} (h : Res u s x y) (ho : Below u.heap.size u w) : Res w s x y :=
  ⟨cell_b h.c0 ho, cell_b h.c1 ho, (ho.frozen (World.block_lt_of_cell? u _ h.c0)).trans h.f0, (ho.frozen (World.block_lt_of_cell? u _ h.c1)).trans h.f1⟩
where cell_b {u w : World} {p : Addr} {v : Value} (h : u.cell? p = some v) (hb : Below u.heap.size u w) : w.cell? p = some v := (hb.cell (World.block_lt_of_cell? u p h)).trans h
theorem Res.alloc {u : World} {s : Nat} {x y : Int} (h : Res u s x y) (o : Obj) : Res (u.alloc o) s x y := h.below (Below.alloc (Below.refl _ _) (Nat.le_refl _) o)
theorem Res.new (w : World) (x y : Int) (t : TypeId) : Res (w.alloc (.cells #[.int .i64 x, .int .i64 y] t)) w.heap.size x y := ⟨by go_simp, by go_simp, by go_simp, by go_simp⟩
theorem TapeAt.alloc {b : Nat} {w : World} (h : TapeAt b w) (o : Obj) : TapeAt b (w.alloc o) := h.below (Below.alloc (Below.refl _ _) (Nat.le_refl _) o)

def RatioR (b : Nat) (w : World) (e : Ending) (w' : World) : Prop := ∃ n d : Int, e = .returned (.agg #[.int .i64 n, .int .i64 d]) ∧ vldB n d = true ∧ TapeAt b w' ∧ Only b w w'
theorem four (w : World) (x y z u : Int) (t : TypeId) : ∀ i, i < ([x, y, z, u] : List Int).length → (w.alloc (.cells #[.int .i64 x, .int .i64 y, .int .i64 z, .int .i64 u] t)).cell? ⟨w.heap.size, i, none⟩ = some (.int .i64 (([x, y, z, u] : List Int).getD i 0)) := by
  intro i hi
  rcases i with _ | _ | _ | _ | i
  · go_simp
  · go_simp
  · go_simp
  · go_simp
  · simp at hi; omega

end Go.Proofs.Ytgkjdaeihjedkaa.Tp
