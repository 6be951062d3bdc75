/-
  Layer 3 (calendar): the contract of the reference's Parse. No condition.
-/
import Derived.Test.YtfoocingingpcaaDoorPrTy
import Derived.Deep.RegionWith
namespace Go.Proofs.YtfoocingingpcaaDoor
open Go Go.RowKit Go.Lib

/-- The number that the first digits spell. -/
def pvl (L : List UInt8) (j : Nat) : Int := (L.take j).foldl (fun a c => a * 10 + dv c) 0
def AllD (L : List UInt8) (j : Nat) : Prop := ∀ c ∈ L.take j, Dig c
theorem pvl_snoc {L : List UInt8} {j : Nat} {c : UInt8} (h : L[j]? = some c) : pvl L (j + 1) = pvl L j * 10 + dv c := by
  unfold pvl
  rw [List.take_add_one, h, List.foldl_append]; rfl
theorem allD_snoc {L : List UInt8} {j : Nat} {c : UInt8} (h : L[j]? = some c) (hA : AllD L j) (hc : Dig c) : AllD L (j + 1) := by
  intro x hx
  rw [List.take_add_one, h, List.mem_append] at hx
  rcases hx with hx | hx
  · exact hA x hx
  · simp at hx; rw [hx]; exact hc
theorem pvl_bd {L : List UInt8} : ∀ j, j ≤ L.length → AllD L j → 0 ≤ pvl L j ∧ pvl L j < 10 ^ j := by
  intro j
  induction j with
  | zero => intro _ _; unfold pvl; simp
  | succ j ih =>
    intro hj hA
    have hc : L[j]? = some L[j] := List.getElem?_eq_getElem (by omega)
    have hA' : AllD L j := fun x hx => hA x (by rw [List.take_add_one]; exact List.mem_append_left _ hx)
    obtain ⟨p, q⟩ := ih (by omega) hA'
    have hd : Dig L[j] := hA _ (by rw [List.take_add_one]; exact List.mem_append_right _ (by rw [hc]; simp))
    have hs : (10 : Int) ^ (j + 1) = 10 ^ j * 10 := Int.pow_succ _ _
    rw [pvl_snoc hc, hs]
    unfold dv
    obtain ⟨d0, d1⟩ := hd
    omega
theorem pvl_999 {L : List UInt8} {j : Nat} (hj : j ≤ L.length) (h3 : j ≤ 3) (hA : AllD L j) : 0 ≤ pvl L j ∧ pvl L j ≤ 999 := by
  obtain ⟨p, q⟩ := pvl_bd j hj hA
  refine ⟨p, ?_⟩
  rcases (by omega : j = 0 ∨ j = 1 ∨ j = 2 ∨ j = 3) with rfl | rfl | rfl | rfl <;> omega
theorem idx_of {t : ByteArray} {L : List UInt8} (h : t.data.toList = L) (j : Nat) (hj : j < t.size) : L[j]? = some (t[j]'hj) := by
  subst h
  rw [List.getElem?_eq_getElem (by simpa using hj)]
  rfl
/-- The world of the reference's Parse: its three numbers, its three parts. -/
structure PI (w : World) (t0 t1 t2 : ByteArray) (n0 n1 n2 : Int) (wr : World) : Prop where
  c0 : wr.cell? ⟨w.heap.size, 0, none⟩ = some (.int .i64 n0)
  c1 : wr.cell? ⟨w.heap.size, 1, none⟩ = some (.int .i64 n1)
  c2 : wr.cell? ⟨w.heap.size, 2, none⟩ = some (.int .i64 n2)
  z0 : wr.frozen? ⟨w.heap.size, 0, none⟩ = false
  z1 : wr.frozen? ⟨w.heap.size, 1, none⟩ = false
  z2 : wr.frozen? ⟨w.heap.size, 2, none⟩ = false
  s0 : wr.cell? ⟨w.heap.size + 1, 0, none⟩ = some (.string t0)
  s1 : wr.cell? ⟨w.heap.size + 1, 1, none⟩ = some (.string t1)
  s2 : wr.cell? ⟨w.heap.size + 1, 2, none⟩ = some (.string t2)
  bel : Below w.heap.size w wr
theorem PI.start (w : World) (t0 t1 t2 : ByteArray) : PI w t0 t1 t2 0 0 0 (((w.alloc (.cells #[.int .i64 0, .int .i64 0, .int .i64 0] 70)).alloc (.cells #[.string t0, .string t1, .string t2] 9)).drew) := by
  refine ⟨?_, ?_, ?_, ?_, ?_, ?_, ?_, ?_, ?_, ?_⟩
  · go_simp
  · go_simp
  · go_simp
  · go_simp
  · go_simp
  · go_simp
  · go_simp
  · go_simp
  · go_simp
  · exact ((Below.alloc (Below.refl _ _) (Nat.le_refl _) _).alloc (by simp) _).drew
theorem PI.drewN {w wr : World} {t0 t1 t2 : ByteArray} {n0 n1 n2 : Int} (h : PI w t0 t1 t2 n0 n1 n2 wr) (k : Nat) : PI w t0 t1 t2 n0 n1 n2 (wr.drewN k) := by
  refine ⟨?_, ?_, ?_, ?_, ?_, ?_, ?_, ?_, ?_, below_drewN h.bel _⟩
  · simpa using h.c0
  · simpa using h.c1
  · simpa using h.c2
  · simpa using h.z0
  · simpa using h.z1
  · simpa using h.z2
  · simpa using h.s0
  · simpa using h.s1
  · simpa using h.s2
theorem PI.drew {w wr : World} {t0 t1 t2 : ByteArray} {n0 n1 n2 : Int} (h : PI w t0 t1 t2 n0 n1 n2 wr) : PI w t0 t1 t2 n0 n1 n2 wr.drew := by
  refine ⟨?_, ?_, ?_, ?_, ?_, ?_, ?_, ?_, ?_, h.bel.drew⟩
  · simpa using h.c0
  · simpa using h.c1
  · simpa using h.c2
  · simpa using h.z0
  · simpa using h.z1
  · simpa using h.z2
  · simpa using h.s0
  · simpa using h.s1
  · simpa using h.s2
theorem pr_bad {s : ByteArray} {b0 b1 b2 b3 b4 b5 b6 b7 b8 b9 : UInt8} (hl : s.data.toList = [b0, b1, b2, b3, b4, b5, b6, b7, b8, b9]) (h : ∀ y m d, Spell b0 b1 b2 b3 b4 b5 b6 b7 b8 b9 y m d → ¬ Cal.Is y m d) : PR s.data.toList 0 false :=
  .inr ⟨rfl, rfl, fun y m d hi e => by
    obtain ⟨y0, y1, m0, m1, d0, d1⟩ := is_bd hi
    exact h y m d ((spell_iff _ _ _ _ _ _ _ _ _ _ y m d (by omega) (by omega) (by omega) (by omega) (by omega) (by omega)).1 (hl.symm.trans e)) hi⟩
theorem spell_mem {b0 b1 b2 b3 b4 b5 b6 b7 b8 b9 : UInt8} {y m d : Int} (h : Spell b0 b1 b2 b3 b4 b5 b6 b7 b8 b9 y m d) : (∀ c ∈ [b0, b1, b2, b3], Dig c) ∧ (∀ c ∈ [b5, b6], Dig c) ∧ (∀ c ∈ [b8, b9], Dig c) := by
  obtain ⟨h0, h1, h2, h3, h5, h6, h8, h9, _⟩ := h
  refine ⟨?_, ?_, ?_⟩
  · intro c hc; simp at hc; rcases hc with rfl | rfl | rfl | rfl <;> assumption
  · intro c hc; simp at hc; rcases hc with rfl | rfl <;> assumption
  · intro c hc; simp at hc; rcases hc with rfl | rfl <;> assumption
theorem pvl4 (a b c d : UInt8) : pvl [a, b, c, d] 4 = ((dv a * 10 + dv b) * 10 + dv c) * 10 + dv d := by simp [pvl]
theorem pvl2 (a b : UInt8) : pvl [a, b] 2 = dv a * 10 + dv b := by simp [pvl]
theorem PI.put0 {w wr : World} {t0 t1 t2 : ByteArray} {n0 n1 n2 : Int} (h : PI w t0 t1 t2 n0 n1 n2 wr) (v : Int) : PI w t0 t1 t2 v n1 n2 (wr.setCell ⟨w.heap.size, 0, none⟩ (.int .i64 v)) := by
  obtain ⟨h0, h1, h2, z0, z1, z2, q0, q1, q2, hb⟩ := h
  have sz := World.block_lt_of_cell? wr _ h0
  have sz2 := World.block_lt_of_cell? wr _ q0
  simp only at sz sz2
  refine ⟨?_, ?_, ?_, ?_, ?_, ?_, ?_, ?_, ?_, hb.setCell (by simp) _⟩
  · go_simp
  · go_simp
  · go_simp
  · go_simp
  · go_simp
  · go_simp
  · go_simp
  · go_simp
  · go_simp
theorem PI.put1 {w wr : World} {t0 t1 t2 : ByteArray} {n0 n1 n2 : Int} (h : PI w t0 t1 t2 n0 n1 n2 wr) (v : Int) : PI w t0 t1 t2 n0 v n2 (wr.setCell ⟨w.heap.size, 1, none⟩ (.int .i64 v)) := by
  obtain ⟨h0, h1, h2, z0, z1, z2, q0, q1, q2, hb⟩ := h
  have sz := World.block_lt_of_cell? wr _ h0
  have sz2 := World.block_lt_of_cell? wr _ q0
  simp only at sz sz2
  refine ⟨?_, ?_, ?_, ?_, ?_, ?_, ?_, ?_, ?_, hb.setCell (by simp) _⟩
  · go_simp
  · go_simp
  · go_simp
  · go_simp
  · go_simp
  · go_simp
  · go_simp
  · go_simp
  · go_simp
theorem PI.put2 {w wr : World} {t0 t1 t2 : ByteArray} {n0 n1 n2 : Int} (h : PI w t0 t1 t2 n0 n1 n2 wr) (v : Int) : PI w t0 t1 t2 n0 n1 v (wr.setCell ⟨w.heap.size, 2, none⟩ (.int .i64 v)) := by
  obtain ⟨h0, h1, h2, z0, z1, z2, q0, q1, q2, hb⟩ := h
  have sz := World.block_lt_of_cell? wr _ h0
  have sz2 := World.block_lt_of_cell? wr _ q0
  simp only at sz sz2
  refine ⟨?_, ?_, ?_, ?_, ?_, ?_, ?_, ?_, ?_, hb.setCell (by simp) _⟩
  · go_simp
  · go_simp
  · go_simp
  · go_simp
  · go_simp
  · go_simp
  · go_simp
  · go_simp
  · go_simp
end Go.Proofs.YtfoocingingpcaaDoor
