/-
  Layer 4 (clock): the reference: contracts of Shift, segment. Conditions: the zone is valid and its changes lie in their cells.
-/
import Derived.Test.YtbbfkpkibakieaaPrZr
namespace Go.Proofs.Ytbbfkpkibakieaa
open Go Go.RowKit Go.Lib

/-- The offset at t, of changes from the last one to the first one. -/
def shR (t off : Int) : List (Int × Int) → Int
  | [] => off
  | c :: r => if c.1 ≤ t then c.2 else shR t off r
theorem shR_eq {t off : Int} (t0 : 0 ≤ t) (r : List (Int × Int)) : ∀ to : Int, Desc to (spP to r ++ lastP (toO to r) off) → t < to → offV t (spP to r ++ lastP (toO to r) off) = shR t off r := by
  induction r with
  | nil =>
    intro to h ht
    show offV t (lastP to off) = off
    unfold lastP
    rw [if_pos (by omega)]
    simp [offV, t0]
  | cons c r ih =>
    intro to h ht
    obtain ⟨h1, h2, h3, h4, h5, h6⟩ := h
    show (if c.1 ≤ t then c.2 else offV t (spP c.1 r ++ lastP (toO c.1 r) off)) = (if c.1 ≤ t then c.2 else shR t off r)
    split
    · rfl
    · exact ih c.1 h6 (by omega)
theorem shR_ok {t off : Int} {cs : List (Int × Int)} (h : vE off cs = 0) (t0 : 0 ≤ t) (t1 : t ≤ 120968639) : shR t off cs.reverse = offV t (spL off cs) := by
  rw [spL_eq]
  exact (shR_eq t0 _ END (desc_spL off cs h) (by unfold END; omega)).symm

set_option maxRecDepth 100000 in
set_option maxHeartbeats 2000000 in
theorem rshift_in (off : Int) (x : Addr) (n cap : Nat) (cs : List (Int × Int)) (t : Int) (hn : n ≤ 64) (w : World) (hr : ChRow w w.heap.size (some x) n cs) :
    Calls Try.prog 39 #[.agg #[.int .i64 off, .slice (some x) n cap], .int .i64 t] w fun e w' => e = .returned (.int .i64 (shR t off cs.reverse)) ∧ Below w.heap.size w w' := by
  have R0 := RZ.new (off := off) (cap := cap) hr
  have hl := hr.1
  go_enter Try.func39, Try.ntmps39
  go_wp2
  go_loopw [5] (fun iv wr => ∃ m : Nat, m ≤ n ∧ iv = .int .i64 ((m : Int) - 1) ∧ Hid (shR t off cs.reverse = shR t off (cs.take m).reverse) ∧ Hid (RZ w off (some x) n cap cs wr)) (fun iv _ => (Go.RowKit.intOf iv + 1).toNat)
  case atStart => exact ⟨n, Nat.le_refl _, rfl, Lib.hid (by rw [List.take_of_length_le (by omega)]), Lib.hid R0⟩
  case round =>
    obtain ⟨m, hm, hi, HS, HR⟩ := hrel
    clear R0
    have hl2 : n ≤ cs.length := by omega
    clear hl
    cases m with
    | zero =>
      rw [show ((0 : Nat) : Int) - 1 = -1 from rfl] at hi
      subst hi
      have z0 := HR.out.box.c0
      go_wp2
      go_ret
      exact ⟨retI (by rw [HS.out]; rfl), HR.out.below⟩
    | succ j =>
      rw [show ((j + 1 : Nat) : Int) - 1 = (j : Int) by omega] at hi
      subst hi
      have z1 := HR.out.box.c1
      have hj : j < cs.length := by omega
      obtain ⟨c0, c1⟩ := (HR.out.cells.2.2) x rfl j hj
      have HT : Hid ((cs.take (j + 1)).reverse = cs[j] :: (cs.take j).reverse) := Lib.hid (by rw [List.take_succ_eq_append_getElem hj, List.reverse_append]; rfl)
      generalize cs[j] = c at *
      by_cases hc : c.1 ≤ t
      · go_wp2
        go_ret
        exact ⟨retI (by rw [HS.out, HT.out]; unfold shR; rw [if_pos hc]), HR.out.below⟩
      · go_wp2
        go_roundw
        case rel => exact ⟨j, by omega, rfl, Lib.hid (by rw [HS.out, HT.out]; conv => lhs; unfold shR; rw [if_neg (by omega)]), HR⟩
        case measure => simp [Go.RowKit.intOf]
set_option maxRecDepth 100000 in
set_option maxHeartbeats 2000000 in
theorem rshift_none (off : Int) (a : Option Addr) (cap : Nat) (t : Int) (w : World) :
    Calls Try.prog 39 #[.agg #[.int .i64 off, .slice a 0 cap], .int .i64 t] w fun e w' => e = .returned (.int .i64 off) ∧ Below w.heap.size w w' := by
  go_enter Try.func39, Try.ntmps39
  go_wp2
  go_loopw [5] (fun iv wr => iv = .int .i64 (-1) ∧ wr = w.alloc (.cells #[.int .i64 off, .slice a 0 cap] 24)) (fun _ _ => 0)
  case atStart => exact ⟨rfl, rfl⟩
  case round =>
    obtain ⟨rfl, rfl⟩ := hrel
    go_wp2
    go_ret
    exact ⟨rfl, (Below.refl _ _).alloc (Nat.le_refl _) _⟩
theorem rshift_any (off : Int) (a : Option Addr) (n cap : Nat) (cs : List (Int × Int)) (t : Int) (hn : n ≤ 64) (w : World) (hr : ChRow w w.heap.size a n cs) :
    Calls Try.prog 39 #[.agg #[.int .i64 off, .slice a n cap], .int .i64 t] w fun e w' => e = .returned (.int .i64 (shR t off cs.reverse)) ∧ Below w.heap.size w w' := by
  rcases Nat.eq_zero_or_pos n with h0 | h0
  · subst h0
    obtain rfl : cs = [] := List.length_eq_zero_iff.mp hr.1
    exact rshift_none off a cap t w
  · obtain ⟨x, rfl, _⟩ := hr.2 h0
    exact rshift_in off x n cap cs t hn w hr

/-- What the part i of a zone is. -/
def sFrom (f : Int) (cs : List (Int × Int)) : Nat → Int
  | 0 => f
  | j + 1 => (cs.getD j (0, 0)).1
def sOff (o : Int) (cs : List (Int × Int)) : Nat → Int
  | 0 => o
  | j + 1 => (cs.getD j (0, 0)).2
def sTo (cs : List (Int × Int)) (i : Nat) : Int := if i < cs.length then (cs.getD i (0, 0)).1 else END
theorem sg_get (cs : List (Int × Int)) : ∀ (f o : Int) (i : Nat) (h : i < (sg f o cs).length), (sg f o cs)[i] = (sFrom f cs i, sTo cs i, sOff o cs i) := by
  induction cs with
  | nil =>
    intro f o i h
    obtain rfl : i = 0 := by simp [sg] at h; omega
    rfl
  | cons c r ih =>
    intro f o i h
    cases i with
    | zero => simp [sg, sFrom, sOff, sTo]
    | succ i =>
      have hl := sg_length c.1 c.2 r
      have h' : i < (sg c.1 c.2 r).length := by simpa [sg] using h
      have := ih c.1 c.2 i h'
      simp only [sg, List.getElem_cons_succ, this]
      have e1 : sTo (c :: r) (i + 1) = sTo r i := by unfold sTo; simp
      rw [e1]
      cases i <;> simp [sFrom, sOff]
theorem sg_ok (cs : List (Int × Int)) : ∀ (f o b : Int), Asc b cs → 0 ≤ f → f ≤ b + 1 → b ≤ 120968639 → -840 ≤ o → o ≤ 840 → ∀ s ∈ sg f o cs, 0 ≤ s.1 ∧ s.1 ≤ s.2.1 ∧ s.2.1 ≤ END ∧ -840 ≤ s.2.2 ∧ s.2.2 ≤ 840 := by
  induction cs with
  | nil =>
    intro f o b _ h1 h2 h3 h4 h5 s hs
    simp only [sg, List.mem_singleton] at hs
    subst hs
    exact ⟨h1, by show f ≤ END; unfold END; omega, Int.le_refl _, h4, h5⟩
  | cons c r ih =>
    intro f o b ha h1 h2 h3 h4 h5 s hs
    obtain ⟨a1, a2, a3, a4, a5, a6⟩ := ha
    simp only [sg, List.mem_cons] at hs
    rcases hs with rfl | hs
    · exact ⟨h1, by show f ≤ c.1; omega, by show c.1 ≤ END; unfold END; omega, h4, h5⟩
    · exact ih c.1 c.2 c.1 a6 a2 (by omega) (by omega) a4 a5 s hs
theorem vE_parts {off : Int} {cs : List (Int × Int)} (h : vE off cs = 0) : cs.length ≤ 64 ∧ -840 ≤ off ∧ off ≤ 840 ∧ Asc (-1) cs := by
  unfold vE at h
  split at h
  · cases h
  · split at h
    · cases h
    · exact ⟨by omega, by omega, by omega, vL_asc _ _ h⟩
theorem sg_good {off : Int} {cs : List (Int × Int)} (h : vE off cs = 0) : ∀ s ∈ sg 0 off cs, 0 ≤ s.1 ∧ s.1 ≤ s.2.1 ∧ s.2.1 ≤ END ∧ -840 ≤ s.2.2 ∧ s.2.2 ≤ 840 := by
  obtain ⟨_, h1, h2, h3⟩ := vE_parts h
  exact sg_ok cs 0 off (-1) h3 (by omega) (by omega) (by omega) h1 h2
/-- What segment leaves. -/
def SegR (off : Int) (cs : List (Int × Int)) (i : Nat) (w : World) (e : Ending) (w' : World) : Prop :=
  e = .returned (.tuple #[.int .i64 (sFrom 0 cs i), .int .i64 (sTo cs i - 1), .int .i64 (sOff off cs i)]) ∧ Below w.heap.size w w'
end Go.Proofs.Ytbbfkpkibakieaa
