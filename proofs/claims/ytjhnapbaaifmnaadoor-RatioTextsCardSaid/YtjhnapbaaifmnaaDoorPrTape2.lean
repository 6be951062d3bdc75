/-
  The generator's fractions: whatever the tape holds, Ratio returns a valid fraction, and Fraction one whose parts are small. Condition: the tape's block reads as a tape.
-/
import Derived.Test.YtjhnapbaaifmnaaDoorPrTape
namespace Go.Proofs.YtjhnapbaaifmnaaDoor.Tp
open Go Go.RowKit Go.Lib Go.Proofs.YtjhnapbaaifmnaaDoor

theorem newT_small (n d : Int) (h0 : -1000000000000 ≤ n) (h1 : n ≤ 1000000000000) (h2 : 1 ≤ d) (h3 : d ≤ 1000000) : (newT n d).2.2 = 0 ∧ vldB (newT n d).1 (newT n d).2.1 = true := by
  have hg : 0 < Nat.gcd n.natAbs d.natAbs := Nat.gcd_pos_of_pos_right _ (by omega)
  have hx : n.natAbs / Nat.gcd n.natAbs d.natAbs ≤ n.natAbs := Nat.div_le_self _ _
  have hy : d.natAbs / Nat.gcd n.natAbs d.natAbs ≤ d.natAbs := Nat.div_le_self _ _
  have hy1 : 0 < d.natAbs / Nat.gcd n.natAbs d.natAbs := Nat.div_pos (Nat.le_of_dvd (by omega) (Nat.gcd_dvd_right _ _)) hg
  have hc : Nat.gcd (n.natAbs / Nat.gcd n.natAbs d.natAbs) (d.natAbs / Nat.gcd n.natAbs d.natAbs) = 1 := Nat.coprime_div_gcd_div_gcd hg
  have e := newT_fit n d _ _ (by omega) rfl rfl
  unfold fitT at e
  generalize n.natAbs / Nat.gcd n.natAbs d.natAbs = x at *
  generalize d.natAbs / Nat.gcd n.natAbs d.natAbs = y at *
  rw [cutT_ok _ _ _ (by omega) (by omega)] at e
  rw [e]
  refine ⟨rfl, vld_mk ?_ ?_⟩
  · dsimp only
    split <;> omega
  · dsimp only
    split
    · rw [Int.natAbs_neg, Int.natAbs_natCast, Int.natAbs_natCast]; exact hc
    · rw [Int.natAbs_natCast, Int.natAbs_natCast]; exact hc

/-- A new cell block of a result: two ints, not frozen. -/
structure Res (w : World) (s : Nat) (x y : Int) : Prop where
  c0 : w.cell? ⟨s, 0, none⟩ = some (.int .i64 x)
  c1 : w.cell? ⟨s, 1, none⟩ = some (.int .i64 y)
  f0 : w.frozen? ⟨s, 0, none⟩ = false
  f1 : w.frozen? ⟨s, 1, none⟩ = false
theorem Res.only {u w : World} {s b : Nat} {x y : Int} (h : Res u s x y) (hn : s ≠ b) (ho : Only b u w) : Res w s x y :=
  ⟨ho.cell h.c0 hn, ho.cell h.c1 hn, ho.frozen h.f0 (World.block_lt_of_cell? u _ h.c0) hn, ho.frozen h.f1 (World.block_lt_of_cell? u _ h.c1) hn⟩
theorem Res.below {u w : World} {s : Nat} {x y : Int} (h : Res u s x y) (ho : Below u.heap.size u w) : Res w s x y :=
  ⟨cell_b h.c0 ho, cell_b h.c1 ho, (ho.frozen (World.block_lt_of_cell? u _ h.c0)).trans h.f0, (ho.frozen (World.block_lt_of_cell? u _ h.c1)).trans h.f1⟩
where cell_b {u w : World} {p : Addr} {v : Value} (h : u.cell? p = some v) (hb : Below u.heap.size u w) : w.cell? p = some v := (hb.cell (World.block_lt_of_cell? u p h)).trans h
theorem Res.alloc {u : World} {s : Nat} {x y : Int} (h : Res u s x y) (o : Obj) : Res (u.alloc o) s x y := h.below (Below.alloc (Below.refl _ _) (Nat.le_refl _) o)
theorem Res.new (w : World) (x y : Int) (t : TypeId) : Res (w.alloc (.cells #[.int .i64 x, .int .i64 y] t)) w.heap.size x y := ⟨by go_simp, by go_simp, by go_simp, by go_simp⟩
theorem TapeAt.alloc {b : Nat} {w : World} (h : TapeAt b w) (o : Obj) : TapeAt b (w.alloc o) := h.below (Below.alloc (Below.refl _ _) (Nat.le_refl _) o)

def RatioR (b : Nat) (w : World) (e : Ending) (w' : World) : Prop := ∃ n d : Int, e = .returned (.agg #[.int .i64 n, .int .i64 d]) ∧ vldB n d = true ∧ TapeAt b w' ∧ Only b w w'
theorem four (w : World) (x y z u : Int) (t : TypeId) : ∀ i, i < ([x, y, z, u] : List Int).length → (w.alloc (.cells #[.int .i64 x, .int .i64 y, .int .i64 z, .int .i64 u] t)).cell? ⟨w.heap.size, i, none⟩ = some (.int .i64 (([x, y, z, u] : List Int).getD i 0)) := by
  intro i hi
  rcases i with _ | _ | _ | _ | i
  · go_simp
  · go_simp
  · go_simp
  · go_simp
  · simp at hi; omega

set_option maxRecDepth 100000 in
set_option maxHeartbeats 4000000 in
theorem ratio_any (b : Nat) (w : World) (h : TapeAt b w) :
    Calls Tryd.prog 16 #[.pointer (some ⟨b, 0, none⟩)] w (RatioR b w) := by
  have hb := h.lt
  have hne : w.heap.size ≠ b := by omega
  go_enter Tryd.func16, Tryd.ntmps16
  go_wp2_with fail
  have R0 := Res.new w 0 0 23
  have T0 := TapeAt.alloc h (.cells #[.int .i64 0, .int .i64 0] 23)
  refine (next_any b 41 (by omega) (by omega) _ T0).mono ?_
  rintro e w1 ⟨v1, rfl, a1, a2, T1, O1⟩
  have R1 := R0.only hne O1
  go_wp2_with fail
  refine (next_any b 12 (by omega) (by omega) _ T1).mono ?_
  rintro e w2 ⟨v2, rfl, b1, b2, T2, O2⟩
  have R2 := R1.only hne O2
  go_wp2_with fail
  refine (next_any b 8 (by omega) (by omega) _ T2).mono ?_
  rintro e w3 ⟨v3, rfl, c1, c2, T3, O3⟩
  have R3 := R2.only hne O3
  have O03 : Only b w w3 := (((Only.refl b w).alloc _).trans O1).trans (O2.trans O3)
  clear R0 R1 R2 T0 T1 T2 O1 O2 O3
  rcases (by omega : v3 = 5 ∨ v3 = 6 ∨ v3 = 7 ∨ (v3 ≠ 5 ∧ v3 ≠ 6 ∧ v3 ≠ 7)) with rfl | rfl | rfl | ⟨d5, d6, d7⟩
  · go_wp2_with fail
    have S4 := four w3 (1000000000000) (-1000000000000) (999999999999) (999999) 3
    have T4a := T3.alloc (.cells #[.int .i64 (1000000000000), .int .i64 (-1000000000000), .int .i64 (999999999999), .int .i64 (999999)] 3)
    have R4a := R3.alloc (.cells #[.int .i64 (1000000000000), .int .i64 (-1000000000000), .int .i64 (999999999999), .int .i64 (999999)] 3)
    refine (pick_any b w3.heap.size [1000000000000, -1000000000000, 999999999999, 999999] (by simp) (by simp) (by have := T3.lt; omega) _ T4a S4).mono ?_
    rintro e w4 ⟨p, rfl, m4, T4, O4⟩
    have R4 := R4a.only hne O4
    have O04 : Only b w w4 := (O03.alloc _).trans O4
    simp only [List.mem_cons, List.not_mem_nil, or_false] at m4
    clear S4 T4a R4a O4
    go_wp2_with fail
    have S5 := four w4 (1) (1000000) (7) (100) 3
    have T5a := T4.alloc (.cells #[.int .i64 (1), .int .i64 (1000000), .int .i64 (7), .int .i64 (100)] 3)
    have R5a := R4.alloc (.cells #[.int .i64 (1), .int .i64 (1000000), .int .i64 (7), .int .i64 (100)] 3)
    refine (pick_any b w4.heap.size [1, 1000000, 7, 100] (by simp) (by simp) (by have := T4.lt; omega) _ T5a S5).mono ?_
    rintro e w5 ⟨q, rfl, m5, T5, O5⟩
    have R5 := R5a.only hne O5
    have O05 : Only b w w5 := (O04.alloc _).trans O5
    simp only [List.mem_cons, List.not_mem_nil, or_false] at m5
    clear S5 T5a R5a O5
    obtain ⟨E1, E2⟩ := newT_small (p) (q) (by omega) (by omega) (by omega) (by omega)
    go_wp2_with fail
    refine (rnew_any _ _ (by omega) (by omega) (by omega) (by omega) _).mono ?_
    rintro e w6 ⟨rfl, hw6⟩
    have R6 := R5.below hw6
    have T6 := T5.below hw6
    have O6 : Only b w w6 := O05.trans (Only.of_below hw6)
    obtain ⟨y0, y1, g0, g1⟩ := R6
    have z0 : w.heap.size < w6.heap.size := World.block_lt_of_cell? w6 _ y0
    go_wp2_with fail
    refine bodyPost_ret (v := .agg #[.int .i64 (newT (p) (q)).1, .int .i64 (newT (p) (q)).2.1]) (by simp [results, Tryd.results16, go_sem, y0, y1, z0]) rfl ⟨_, _, rfl, E2, ?_, ?_⟩
    · exact ((T6.far (p := ⟨w.heap.size, 0, none⟩) hb _).far (p := ⟨w.heap.size, 1, none⟩) hb _).alloc _
    · exact ((O6.setCell (p := ⟨w.heap.size, 0, none⟩) (.inr (Nat.le_refl _)) _).setCell (p := ⟨w.heap.size, 1, none⟩) (.inr (Nat.le_refl _)) _).alloc _
  · go_wp2_with fail
    refine (next_any b 200001 (by omega) (by omega) _ T3).mono ?_
    rintro e w4 ⟨p, rfl, k4, l4, T4, O4⟩
    have R4 := R3.only hne O4
    have O04 : Only b w w4 := O03.trans O4
    clear O4
    obtain ⟨E1, E2⟩ := newT_small (p - 100000) (100) (by omega) (by omega) (by omega) (by omega)
    go_wp2_with fail
    refine (rnew_any _ _ (by omega) (by omega) (by omega) (by omega) _).mono ?_
    rintro e w5 ⟨rfl, hw5⟩
    have R5 := R4.below hw5
    have T5 := T4.below hw5
    have O5 : Only b w w5 := O04.trans (Only.of_below hw5)
    obtain ⟨y0, y1, g0, g1⟩ := R5
    have z0 : w.heap.size < w5.heap.size := World.block_lt_of_cell? w5 _ y0
    go_wp2_with fail
    refine bodyPost_ret (v := .agg #[.int .i64 (newT (p - 100000) (100)).1, .int .i64 (newT (p - 100000) (100)).2.1]) (by simp [results, Tryd.results16, go_sem, y0, y1, z0]) rfl ⟨_, _, rfl, E2, ?_, ?_⟩
    · exact ((T5.far (p := ⟨w.heap.size, 0, none⟩) hb _).far (p := ⟨w.heap.size, 1, none⟩) hb _).alloc _
    · exact ((O5.setCell (p := ⟨w.heap.size, 0, none⟩) (.inr (Nat.le_refl _)) _).setCell (p := ⟨w.heap.size, 1, none⟩) (.inr (Nat.le_refl _)) _).alloc _
  · go_wp2_with fail
    refine (next_any b 1000 (by omega) (by omega) _ T3).mono ?_
    rintro e w4 ⟨p, rfl, k4, l4, T4, O4⟩
    have R4 := R3.only hne O4
    have O04 : Only b w w4 := O03.trans O4
    clear O4
    go_wp2_with fail
    have S5 := four w4 (1000000) (999983) (65536) (1000) 3
    have T5a := T4.alloc (.cells #[.int .i64 (1000000), .int .i64 (999983), .int .i64 (65536), .int .i64 (1000)] 3)
    have R5a := R4.alloc (.cells #[.int .i64 (1000000), .int .i64 (999983), .int .i64 (65536), .int .i64 (1000)] 3)
    refine (pick_any b w4.heap.size [1000000, 999983, 65536, 1000] (by simp) (by simp) (by have := T4.lt; omega) _ T5a S5).mono ?_
    rintro e w5 ⟨q, rfl, m5, T5, O5⟩
    have R5 := R5a.only hne O5
    have O05 : Only b w w5 := (O04.alloc _).trans O5
    simp only [List.mem_cons, List.not_mem_nil, or_false] at m5
    clear S5 T5a R5a O5
    obtain ⟨E1, E2⟩ := newT_small (p) (q) (by omega) (by omega) (by omega) (by omega)
    go_wp2_with fail
    refine (rnew_any _ _ (by omega) (by omega) (by omega) (by omega) _).mono ?_
    rintro e w6 ⟨rfl, hw6⟩
    have R6 := R5.below hw6
    have T6 := T5.below hw6
    have O6 : Only b w w6 := O05.trans (Only.of_below hw6)
    obtain ⟨y0, y1, g0, g1⟩ := R6
    have z0 : w.heap.size < w6.heap.size := World.block_lt_of_cell? w6 _ y0
    go_wp2_with fail
    refine bodyPost_ret (v := .agg #[.int .i64 (newT (p) (q)).1, .int .i64 (newT (p) (q)).2.1]) (by simp [results, Tryd.results16, go_sem, y0, y1, z0]) rfl ⟨_, _, rfl, E2, ?_, ?_⟩
    · exact ((T6.far (p := ⟨w.heap.size, 0, none⟩) hb _).far (p := ⟨w.heap.size, 1, none⟩) hb _).alloc _
    · exact ((O6.setCell (p := ⟨w.heap.size, 0, none⟩) (.inr (Nat.le_refl _)) _).setCell (p := ⟨w.heap.size, 1, none⟩) (.inr (Nat.le_refl _)) _).alloc _
  · have e5 : (v3 == 5) = false := by simp; omega
    have e6 : (v3 == 6) = false := by simp; omega
    have e7 : (v3 == 7) = false := by simp; omega
    obtain ⟨E1, E2⟩ := newT_small (v1 - 20) (1 + v2) (by omega) (by omega) (by omega) (by omega)
    go_wp2_with fail
    refine (rnew_any _ _ (by omega) (by omega) (by omega) (by omega) _).mono ?_
    rintro e w4 ⟨rfl, hw4⟩
    have R4 := R3.below hw4
    have T4 := T3.below hw4
    have O4 : Only b w w4 := O03.trans (Only.of_below hw4)
    obtain ⟨y0, y1, g0, g1⟩ := R4
    have z0 : w.heap.size < w4.heap.size := World.block_lt_of_cell? w4 _ y0
    go_wp2_with fail
    refine bodyPost_ret (v := .agg #[.int .i64 (newT (v1 - 20) (1 + v2)).1, .int .i64 (newT (v1 - 20) (1 + v2)).2.1]) (by simp [results, Tryd.results16, go_sem, y0, y1, z0]) rfl ⟨_, _, rfl, E2, ?_, ?_⟩
    · exact ((T4.far (p := ⟨w.heap.size, 0, none⟩) hb _).far (p := ⟨w.heap.size, 1, none⟩) hb _).alloc _
    · exact ((O4.setCell (p := ⟨w.heap.size, 0, none⟩) (.inr (Nat.le_refl _)) _).setCell (p := ⟨w.heap.size, 1, none⟩) (.inr (Nat.le_refl _)) _).alloc _
end Go.Proofs.YtjhnapbaaifmnaaDoor.Tp
