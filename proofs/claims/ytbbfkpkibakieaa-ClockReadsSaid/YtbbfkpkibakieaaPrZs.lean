/-
  Layer 4 (clock): the sanity check of the statements returns true, and nothing that was there has changed. No condition.
-/
import Derived.Test.YtbbfkpkibakieaaPrZl
namespace Go.Proofs.Ytbbfkpkibakieaa
open Go Go.RowKit Go.Lib

theorem sane_i : iV 120 [(1440000, 60)] 1440090 = [1439970, 1440030] := by decide
theorem sane_v : vE 120 [(1440000, 60)] = 0 := by decide
theorem sane_b : bV 60 [] 1 = 1380 := by decide
theorem sane_e : bE 60 [] 1 = 0 := by decide
theorem sane_l : lV 120 [(1440000, 60)] 1440000 = 1440060 := by decide
theorem sane_a : vAE 120 [(1440000, 60)] 1440000 = 0 := by decide
theorem row_none (w : World) (B : Nat) : ChRow w B none 0 [] := ⟨rfl, fun h => by omega⟩
theorem row_one (w : World) (x y : Int) (t : TypeId) : ChRow (w.alloc (.cells #[.int .i64 x, .int .i64 y] t)) (w.alloc (.cells #[.int .i64 x, .int .i64 y] t)).heap.size (some ⟨w.heap.size, 0, none⟩) 1 [(x, y)] := by
  refine ⟨rfl, fun _ => ⟨_, rfl, by simp, fun i hi => ?_⟩⟩
  obtain rfl : i = 0 := by simp at hi; omega
  refine ⟨?_, ?_⟩
  · show World.cell? _ (Addr.add ⟨w.heap.size, 0, none⟩ (0 * 2)) = some (.int .i64 x)
    have e : (Addr.add ⟨w.heap.size, 0, none⟩ (0 * 2)) = ⟨w.heap.size, 0, none⟩ := rfl
    rw [e]; go_simp
  · show World.cell? _ ⟨(Addr.add ⟨w.heap.size, 0, none⟩ (0 * 2)).block, (Addr.add ⟨w.heap.size, 0, none⟩ (0 * 2)).off + 1, none⟩ = some (.int .i64 y)
    have e : (⟨(Addr.add ⟨w.heap.size, 0, none⟩ (0 * 2)).block, (Addr.add ⟨w.heap.size, 0, none⟩ (0 * 2)).off + 1, none⟩ : Addr) = ⟨w.heap.size, 1, none⟩ := rfl
    rw [e]; go_simp
def RetB (b : Bool) (w : World) (e : Ending) (w' : World) : Prop := e = .returned (.bool b) ∧ Below w.heap.size w w'

/-- A row of the call's own, as ints in cells. -/
def IntsAt (w : World) (base : Nat) (v : Value) (xs : List Int) : Prop := ∃ a cap, v = .slice a xs.length cap ∧ ∀ j (h : j < xs.length), ∃ x : Addr, a = some x ∧ base ≤ x.block ∧ x.block < w.heap.size ∧ w.cell? (x.add j) = some (.int .i64 xs[j])
theorem ints_own {w : World} {base : Nat} {t : TypeId} {v : Value} {xs : List Int} (h : w.ownsRow base t 1 v xs.length (xs.map (Value.int .i64))) : IntsAt w base v xs := by
  rcases h.2 with ⟨rfl, h0⟩ | ⟨g, cap, cur, rfl, hb, hg, _⟩
  · exact ⟨none, 0, by rw [h0], fun j hj => by omega⟩
  · refine ⟨_, cap, rfl, fun j hj => ⟨_, rfl, hb, (Array.getElem?_eq_some_iff.1 hg).1, ?_⟩⟩
    exact h.cells (g := g) rfl j _ (by simp [hj])
theorem IntsAt.below {w w' : World} {base : Nat} {v : Value} {xs : List Int} (h : IntsAt w base v xs) (hb : Below w.heap.size w w') : IntsAt w' base v xs := by
  obtain ⟨a, cap, hv, hc⟩ := h
  refine ⟨a, cap, hv, fun j hj => ?_⟩
  obtain ⟨x, h1, h2, h3, h4⟩ := hc j hj
  exact ⟨x, h1, h2, Nat.lt_of_lt_of_le h3 hb.size, (hb.cell (by rw [addB]; exact h3)).trans h4⟩

set_option maxRecDepth 100000 in
set_option maxHeartbeats 2000000 in
theorem sane_any (w : World) : Calls Try.prog 12 #[] w (RetB true w) := by
  have C1 := instants_any 120 (some ⟨w.heap.size, 0, none⟩) 1 1 [(1440000, 60)] 1440090 (by omega)
  rw [sane_i, sane_v] at C1
  have C2 := begin_any 60 none 0 0 [] 1 (by omega)
  rw [sane_b, sane_e] at C2
  have C3 := local_any 120 (some ⟨w.heap.size, 0, none⟩) 1 1 [(1440000, 60)] 1440000 (by omega)
  rw [sane_l, sane_a] at C3
  have H1 := Lib.hid C1
  have H2 := Lib.hid C2
  have H3 := Lib.hid C3
  clear C1 C2 C3
  have hr0 := row_one w 1440000 60 27
  go_enter Try.func12, Try.ntmps12
  go_wp2_with fail
  have hZ := ZBox.new (w.alloc (.cells #[.int .i64 1440000, .int .i64 60] 27)) 120 (some ⟨w.heap.size, 0, none⟩) 1 1
  have hB0 : Below w.heap.size w ((w.alloc (.cells #[.int .i64 1440000, .int .i64 60] 27)).alloc (.cells #[.int .i64 120, .slice (some ⟨w.heap.size, 0, none⟩) 1 1] 24)) := ((Below.refl _ _).alloc (Nat.le_refl _) _).alloc (by simp) _
  have hr1 := row_box hr0 (.cells #[.int .i64 120, .slice (some ⟨w.heap.size, 0, none⟩) 1 1] 24)
  rw [World.size_alloc] at hZ
  refine (H1.out _ hr1).mono ?_
  rintro e w1 ⟨v, rfl, ho, hb1⟩
  have hI := ints_own ho
  have hZ1 : ZBox w1 (w.heap.size + 1) 120 (some ⟨w.heap.size, 0, none⟩) 1 1 := (hb1.block _ hZ.lt).trans hZ
  have hr2 := row_more hr1 hb1
  have hB1 := hB0.trans (hb1.mono hB0.size)
  clear ho hb1 hr1 hZ hB0
  go_wp2_with fail
  refine (H2.out _ (row_none _ _)).mono ?_
  rintro e w2 ⟨rfl, hb2⟩
  have hI2 := hI.below hb2
  have hZ2 : ZBox w2 (w.heap.size + 1) 120 (some ⟨w.heap.size, 0, none⟩) 1 1 := (hb2.block _ hZ1.lt).trans hZ1
  have hr3 := row_more hr2 hb2
  have hB2 := hB1.trans (hb2.mono hB1.size)
  have z0 := hZ2.c0
  have z1 := hZ2.c1
  clear hb2 hr2 hZ1 hI hB1
  go_wp2_with fail
  refine (H3.out _ hr3).mono ?_
  rintro e w3 ⟨rfl, hb3⟩
  obtain ⟨a, cap, rfl, hc⟩ := hI2.below hb3
  have hB3 := hB2.trans (hb3.mono hB2.size)
  obtain ⟨x, rfl, _, _, c0⟩ := hc 0 (by simp)
  obtain ⟨x', e', _, _, c1⟩ := hc 1 (by simp)
  injection e' with e'
  subst e'
  simp only [List.getElem_cons_zero, List.getElem_cons_succ] at c0 c1
  clear hc hb3 hr3 hZ2 hI2 z0 z1 hB2
  have e0 : x.add 0 = x := by simp [Addr.add]
  have e1 : x.add 1 = ⟨x.block, x.off + 1, none⟩ := by simp [Addr.add]
  rw [e0] at c0
  rw [e1] at c1
  clear e0 e1
  go_wp2
  go_ret
  exact ⟨rfl, hB3⟩
end Go.Proofs.Ytbbfkpkibakieaa
