/-
  allocates returns true: Allocate and the reference's agree, at any list and any total. Condition: the list's cells hold ints.
-/
import Derived.Test.YtgkjdaeihjedkaaPrEaX
namespace Go.Proofs.Ytgkjdaeihjedkaa
open Go Go.RowKit Go.Lib Go.Sort Go.Shelf Go.Proofs Go.Proofs.Ytgkjdaeihjedkaa.Mg
set_option linter.unusedVariables false

/-- A list of ints. -/
def WSl (w : World) (a : Option Addr) (n : Nat) (g : Nat → Int) : Prop := n = 0 ∨ ∃ x, a = some x ∧ x.block < w.heap.size ∧ WRow w x n g
theorem WSl.below {w w' : World} {a : Option Addr} {n : Nat} {g : Nat → Int} (h : WSl w a n g) (hb : Below w.heap.size w w') : WSl w' a n g := by
  rcases h with h | ⟨x, h1, h2, h3⟩
  · exact .inl h
  · exact .inr ⟨x, h1, Nat.lt_of_lt_of_le h2 hb.size, h3.below hb h2⟩
def RetT (w : World) (e : Ending) (w' : World) : Prop := e = .returned (.bool true) ∧ Below w.heap.size w w'

set_option maxRecDepth 100000 in
set_option maxHeartbeats 4000000 in
theorem both_ref (T c : Int) (a : Option Addr) (n cap : Nat) (hn : n ≤ 9223372036854775807) (w : World) (C1 : Calls Try.prog 9 #[.int .i64 T, .slice a n cap] w (RefR c w)) (C2 : Calls Try.prog 15 #[.int .i64 T, .slice a n cap] w (RefR c w)) :
    Calls Try.prog 10 #[.int .i64 T, .slice a n cap] w (RetT w) := by
  have H1 := Lib.hid C1
  have H2 := Lib.hid C2
  clear C1 C2
  go_enter Try.func10, Try.ntmps10
  go_wp2_with fail
  refine H1.out.mono ?_
  rintro e w1 ⟨rfl, rfl⟩
  go_wp2_with fail
  refine H2.out.mono ?_
  rintro e w1 ⟨rfl, rfl⟩
  go_wp2_with fail
  refine wp_loop_rounds 1 ?_
  rw [rounds_succ]
  go_wp2_with fail
  go_ret
  exact ⟨rfl, Below.refl _ _⟩

set_option maxRecDepth 100000 in
set_option maxHeartbeats 4000000 in
theorem both_pos (T : Int) (x : Addr) (n cap : Nat) (f : Nat → Int) (hn : n ≤ 1024) (w : World) (C1 : Calls Try.prog 9 #[.int .i64 T, .slice (some x) n cap] w fun e w' => e = .returned (.tuple #[.slice (some ⟨w.heap.size + 3, 0, none⟩) n n, .int .i64 0]) ∧ RowI w' (w.heap.size + 3) n f ∧ Below w.heap.size w w' ∧ w.heap.size + 3 < w'.heap.size)
    (C2 : ∀ w', Below w.heap.size w w' → Calls Try.prog 15 #[.int .i64 T, .slice (some x) n cap] w' (RaR n f w')) :
    Calls Try.prog 10 #[.int .i64 T, .slice (some x) n cap] w (RetT w) := by
  have H1 := Lib.hid C1
  have H2 := Lib.hid C2
  clear C1 C2
  go_enter Try.func10, Try.ntmps10
  go_wp2_with fail
  refine H1.out.mono ?_
  rintro e w1 ⟨rfl, h1, b1, z1⟩
  have HR1 := Lib.hid h1
  have HB1 := Lib.hid b1
  clear h1 b1
  go_wp2_with fail
  refine (H2.out w1 HB1.out).mono ?_
  rintro e w2 ⟨p, rfl, p0, p1, h2, b2⟩
  have HA := Lib.hid (HR1.out.below b2 z1)
  have HB := Lib.hid h2
  have HBB := Lib.hid (HB1.out.trans (b2.mono HB1.out.size))
  clear h2 b2 HR1 HB1 H1 H2
  go_wp2_with fail
  go_loopw [9] (fun i wr => ∃ k : Nat, k ≤ n ∧ i = .int .i64 k ∧ Hid (RowI wr (w.heap.size + 3) n f) ∧ Hid (RowI wr p n f) ∧ Hid (Below w.heap.size w wr)) (fun i _ => n - (RowKit.intOf i).toNat)
  case atStart => exact ⟨0, by omega, rfl, HA, HB, HBB⟩
  case round =>
    clear HA HB HBB
    obtain ⟨k, hk, rfl, HA, HB, HBB⟩ := hrel
    by_cases hlt : k < n
    · have c1 := HA.out.cell k hlt
      have c2 := HB.out.cell k hlt
      have g1 : (0 : Int) ≤ (k : Int) := by omega
      have g2 : (k : Int) < (n : Int) := by omega
      have g3 : ((k : Int)).toNat = k := by omega
      go_wp2_with fail
      go_quiet (fail)
      have HA2 := Lib.hid (HA.out.drewN nq)
      have HB2 := Lib.hid (HB.out.drewN nq)
      have HBB2 := Lib.hid (below_drewN HBB.out nq)
      go_wp2_with fail
      go_roundw
      case rel => exact ⟨k + 1, hlt, by go_num, HA2, HB2, HBB2⟩
      case measure => simp [RowKit.intOf]; omega
    · obtain rfl : k = n := by omega
      go_wp2_with fail
      go_ret
      exact ⟨rfl, HBB.out⟩

theorem allocates_any (T : Int) (a : Option Addr) (n cap : Nat) (g : Nat → Int) (hn : n ≤ 9223372036854775807) (w : World) (h : WSl w a n g) :
    Calls Try.prog 10 #[.int .i64 T, .slice a n cap] w (RetT w) := by
  rcases Nat.lt_or_ge 1024 n with h1 | h1
  · exact both_ref T 3 a n cap hn w (al_limit T a n cap h1 hn w) (ra_limit T a n cap h1 hn w)
  by_cases hT : T < -1000000000 ∨ 1000000000 < T
  · exact both_ref T 2 a n cap hn w (al_range T a n cap h1 hT w) (ra_range T a n cap h1 hT w)
  have t0 : -1000000000 ≤ T := by omega
  have t1 : T ≤ 1000000000 := by omega
  rcases h with rfl | ⟨x, rfl, hx, hrow⟩
  · exact both_ref T 5 a 0 cap hn w (alloc_nil T a cap t0 t1 w) (ra_nil T a cap t0 t1 w)
  rcases first_bad g n with hg | ⟨b, b1, b2, b3⟩
  · have g0 : ∀ k, k < n → 0 ≤ g k := fun k hk => (hg k hk).1
    have g1 : ∀ k, k < n → g k ≤ 1000000000 := fun k hk => (hg k hk).2
    have hs0 := sumTo_nonneg (g := g) (n := n) g0
    by_cases hs : sumTo g n = 0
    · exact both_ref T 5 (some x) n cap hn w (alloc_zero n T x cap g h1 t0 t1 g0 g1 hs w hrow) (ra_zero n T x cap g h1 t0 t1 g0 g1 hs w hrow)
    · have hn1 : 0 < n := by
        rcases Nat.eq_zero_or_pos n with h | h
        · subst h; exact absurd rfl hs
        · exact h
      haveI : Inhabited (Fin n) := ⟨⟨0, hn1⟩⟩
      refine both_pos T x n cap (alloF T (sumTo g n) g n) h1 w ((alloc_pos n T (sumTo g n) x cap g h1 t0 t1 g0 g1 rfl (by omega) w hx hrow).mono ?_) (fun w' hb => ralloc_pos n T (sumTo g n) x cap g h1 t0 t1 g0 g1 rfl (by omega) w' (Nat.lt_of_lt_of_le hx hb.size) (hrow.below hb hx))
      rintro e w' ⟨e1, e2, e3⟩
      exact ⟨e1, e2, e3, World.block_lt_of_cell? w' _ (e2.cell 0 hn1)⟩
  · exact both_ref T 2 (some x) n cap hn w (al_weight n b T x cap g h1 t0 t1 b1 (fun k hk => (b2 k hk).1) (fun k hk => (b2 k hk).2) b3 w hrow) (ra_weight n b T x cap g h1 t0 t1 b1 (fun k hk => (b2 k hk).1) (fun k hk => (b2 k hk).2) b3 w hrow)
end Go.Proofs.Ytgkjdaeihjedkaa
