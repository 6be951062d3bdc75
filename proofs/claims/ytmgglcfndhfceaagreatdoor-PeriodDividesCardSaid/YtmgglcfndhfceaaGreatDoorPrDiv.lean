/-
  Several texts in one; what each shows, and its conditions, stand ahead of it. No condition beside theirs.
-/
import Derived.Test.YtmgglcfndhfceaaGreatDoorPrTp
import Derived.Test.YtmgglcfndhfceaaGreatDoorShelf
import Derived.Laws.MakeOwn
import Derived.Laws.Rows
import Derived.Test.YtmgglcfndhfceaaGreatDoorPrSort
/- A bridge: the rounding's texts stand on the calendar's tape. No condition of its own. -/

/- Rows of ints in a block of the call's own: what reads, what is stored, what stays; make. No condition of its own. -/
namespace Go.Proofs.YtmgglcfndhfceaaGreatDoor
open Go Go.RowKit Go.Lib
set_option linter.unusedVariables false

/-- Block b begins with n ints, f i at place i, none of them frozen. -/
structure RowI (w : World) (b n : Nat) (f : Nat → Int) : Prop where
  cell : ∀ i, i < n → w.cell? ⟨b, i, none⟩ = some (.int .i64 (f i))
  free : ∀ i, i < n → w.frozen? ⟨b, i, none⟩ = false
theorem RowI.keep {w w' : World} {b n : Nat} {f : Nat → Int} (h : RowI w b n f) (hb : w'.heap[b]? = w.heap[b]?) : RowI w' b n f :=
  ⟨fun i hi => (World.cell?_of_block (a := ⟨b, i, none⟩) hb).trans (h.cell i hi), fun i hi => (World.frozen?_of_block (a := ⟨b, i, none⟩) hb).trans (h.free i hi)⟩
theorem RowI.below {w w' : World} {b n B : Nat} {f : Nat → Int} (h : RowI w b n f) (hb : Below B w w') (hB : b < B) : RowI w' b n f := h.keep (hb.block b hB)
theorem RowI.alloc {w : World} {b n : Nat} {f : Nat → Int} (h : RowI w b n f) (hb : b < w.heap.size) (o : Obj) : RowI (w.alloc o) b n f :=
  h.below (Below.alloc (Below.refl _ _) (Nat.le_refl _) o) hb
theorem RowI.drewN {w : World} {b n : Nat} {f : Nat → Int} (h : RowI w b n f) (k : Nat) : RowI (w.drewN k) b n f := ⟨h.cell, h.free⟩
theorem RowI.far {w : World} {b n : Nat} {f : Nat → Int} (h : RowI w b n f) {p : Addr} (hp : p.block ≠ b) (v : Value) : RowI (w.setCell p v) b n f :=
  h.keep (Below.heap_setCell w p v b (fun e => hp e.symm))
theorem RowI.set {w : World} {b n : Nat} {f : Nat → Int} (h : RowI w b n f) {k : Nat} (hk : k < n) (v : Int) : RowI (w.setCell ⟨b, k, none⟩ (.int .i64 v)) b n (fun i => if i = k then v else f i) := by
  refine ⟨fun i hi => ?_, fun i hi => ?_⟩
  · by_cases e : i = k
    · subst e
      rw [if_pos rfl]
      exact World.cell?_setCell_same _ _ _ (h.cell i hi)
    · rw [if_neg e, World.cell?_setCell_other _ _ _ _ (by intro e'; simp only [Addr.mk.injEq] at e'; omega)]
      exact h.cell i hi
  · rw [World.frozen?_setCell]; exact h.free i hi
theorem RowI.congr {w : World} {b n : Nat} {f g : Nat → Int} (h : RowI w b n f) (e : ∀ i, i < n → f i = g i) : RowI w b n g :=
  ⟨fun i hi => by rw [← e i hi]; exact h.cell i hi, h.free⟩
theorem RowI.only {w w' : World} {b n c : Nat} {f : Nat → Int} (h : RowI w b n f) (ho : Tp.Only c w w') (hb : b < w.heap.size) (hn : b ≠ c) : RowI w' b n f := h.keep (ho.block b hb hn)

/-- What 'make' lays: n zeros. -/
def zerosN (n : Nat) : Array Value := madeCells (Value.int .i64 0).cells (n * 1)
theorem zeros_at (n i : Nat) (hi : i < n) : (zerosN n)[i]? = some (.int .i64 0) := by
  unfold zerosN madeCells
  simp [Value.cells, hi, Nat.mod_one]
theorem RowI.new (w : World) (n : Nat) (t : TypeId) : RowI (w.alloc (.cells (zerosN n) t)) w.heap.size n (fun _ => 0) :=
  ⟨fun i hi => by rw [World.cell?_alloc_at _ _ _ _ rfl]; exact zeros_at n i hi, fun i hi => World.frozen?_alloc_at _ _ _ _ rfl⟩
theorem info_int : (Tryz.prog.info? 3).map (fun i => (i.zero, i.size, i.bytes)) = some (some (.int .i64 0), 1, 8) := by kernel_rfl
theorem make_run (n : Nat) (hn : n ≤ 1000000) (w : World) :
    (Instr.makeSlice 22 (.int .i64 (n : Int)) (.int .i64 (n : Int))).run Tryz.prog w = .ok (.slice (some ⟨w.heap.size, 0, none⟩) n n) (w.alloc (.cells (zerosN n) 3)) := by
  obtain ⟨i0, hi, hz0, hz1, hz2⟩ := info_parts info_int
  have h := run_make (P := Tryz.prog) w 22 3 i0 (.int .i64 0) Tryz.underlying22 hi hz0 .i64 .i64 (n : Int) (n : Int) (by omega) (by omega) (by rw [hz2]; omega) (by omega)
  rw [hz1] at h
  simpa [zerosN] using h
end Go.Proofs.YtmgglcfndhfceaaGreatDoor
/- Layer 2 (rounding): the two closures of divide, and the loops' invariants. Conditions: the captured variables lie where they were laid. -/
namespace Go.Proofs.YtmgglcfndhfceaaGreatDoor
open Go Go.RowKit Go.Lib Go.Sort Go.Shelf Go.Proofs
set_option linter.unusedVariables false

/-- The weights lie at x. -/
def WRow (w : World) (x : Addr) (n : Nat) (g : Nat → Int) : Prop := ∀ i, i < n → w.cell? (x.add i) = some (.int .i64 (g i))
theorem WRow.keep {w w' : World} {x : Addr} {n : Nat} {g : Nat → Int} (h : WRow w x n g) (hb : w'.heap[x.block]? = w.heap[x.block]?) : WRow w' x n g := fun i hi =>
  (World.cell?_of_block (a := x.add i) (by rw [Tp.add_block]; exact hb)).trans (h i hi)
theorem WRow.below {w w' : World} {x : Addr} {n B : Nat} {g : Nat → Int} (h : WRow w x n g) (hb : Below B w w') (hx : x.block < B) : WRow w' x n g := h.keep (hb.block _ hx)

/-- The boxes that the closures have captured. -/
structure Caps (w : World) (bT bS bW bF : Nat) (T s : Int) (x : Addr) (n cap : Nat) (g : Nat → Int) : Prop where
  total : w.cell? ⟨bT, 0, none⟩ = some (.int .i64 T)
  sum : w.cell? ⟨bS, 0, none⟩ = some (.int .i64 s)
  wts : w.cell? ⟨bW, 0, none⟩ = some (.slice (some x) n cap)
  fn : w.cell? ⟨bF, 0, none⟩ = some (.func (.func 74) #[] #[.pointer (some ⟨bT, 0, none⟩), .pointer (some ⟨bW, 0, none⟩), .pointer (some ⟨bS, 0, none⟩)])
  row : WRow w x n g
theorem Caps.keep {w w' : World} {bT bS bW bF : Nat} {T s : Int} {x : Addr} {n cap : Nat} {g : Nat → Int} (h : Caps w bT bS bW bF T s x n cap g) (hT : w'.heap[bT]? = w.heap[bT]?) (hS : w'.heap[bS]? = w.heap[bS]?) (hW : w'.heap[bW]? = w.heap[bW]?) (hF : w'.heap[bF]? = w.heap[bF]?) (hx : w'.heap[x.block]? = w.heap[x.block]?) : Caps w' bT bS bW bF T s x n cap g :=
  ⟨(World.cell?_of_block (a := ⟨bT, 0, none⟩) hT).trans h.total, (World.cell?_of_block (a := ⟨bS, 0, none⟩) hS).trans h.sum, (World.cell?_of_block (a := ⟨bW, 0, none⟩) hW).trans h.wts, (World.cell?_of_block (a := ⟨bF, 0, none⟩) hF).trans h.fn, h.row.keep hx⟩

theorem mul_small {T v : Int} (hT0 : 0 ≤ T) (hT1 : T ≤ 1000000000) (h0 : 0 ≤ v) (h1 : v ≤ 1000000000) : 0 ≤ T * v ∧ T * v ≤ 1000000000000000000 := by
  have a := Int.mul_nonneg hT0 h0
  have b : T * v ≤ 1000000000 * v := Int.mul_le_mul_of_nonneg_right hT1 h0
  omega

set_option maxHeartbeats 1000000 in
theorem rem_any (i : Nat) (bT bS bW bF : Nat) (T s : Int) (x : Addr) (n cap : Nat) (g : Nat → Int) (hi : i < n) (hn : n ≤ 1000000) (hT0 : 0 ≤ T) (hT1 : T ≤ 1000000000) (hs : 1 ≤ s) (hs1 : s ≤ 1000000000000000000) (h0 : 0 ≤ g i) (h1 : g i ≤ 1000000000) (w : World) (hC : Caps w bT bS bW bF T s x n cap g) :
    Calls Tryz.prog 74 #[.int .i64 i, .pointer (some ⟨bT, 0, none⟩), .pointer (some ⟨bW, 0, none⟩), .pointer (some ⟨bS, 0, none⟩)] w fun e w' => e = .returned (.int .i64 (T * g i % s)) ∧ ∃ q, w' = w.drewN q := by
  obtain ⟨c1, c2, c3, _, c5⟩ := hC
  have c4 := c5 i hi
  obtain ⟨m0, m1⟩ := mul_small hT0 hT1 h0 h1
  have g3 : (0 : Int) ≤ (i : Int) := by omega
  have g4 : (i : Int) < (n : Int) := by omega
  have g5 : IntKind.i64.wrap (i : Int) = (i : Int) := IntWalk.i64_in _ (by omega)
  have g6 : (s == 0) = false := by simp; omega
  clear c5 hi
  go_enter Tryz.func74, Tryz.ntmps74
  go_wp2
  go_quiet (fail)
  go_wp2
  go_ret
  exact ⟨rfl, _, rfl⟩

theorem quiet_q {P : Program} {f : FuncId} {args : Array Value} {w : World} {n : Nat} {v : Value}
    (h : Calls P f args (w.drewN n) fun e w' => e = .returned v ∧ ∃ k, w' = (w.drewN n).drewN k) : Calls P f args (w.drewN n) fun e w'' => e = .returned v ∧ ∃ m, w'' = w.drewN m :=
  quiet_more h
theorem Caps.drewN {w : World} {bT bS bW bF : Nat} {T s : Int} {x : Addr} {n cap : Nat} {g : Nat → Int} (h : Caps w bT bS bW bF T s x n cap g) (k : Nat) : Caps (w.drewN k) bT bS bW bF T s x n cap g := ⟨h.total, h.sum, h.wts, h.fn, h.row⟩

set_option maxHeartbeats 1000000 in
theorem cmpc_any (i j : Nat) (bT bS bW bF : Nat) (T s : Int) (x : Addr) (n cap : Nat) (g : Nat → Int) (hi : i < n) (hj : j < n) (hn : n ≤ 1000000) (hT0 : 0 ≤ T) (hT1 : T ≤ 1000000000) (hs : 1 ≤ s) (hs1 : s ≤ 1000000000000000000) (h0 : ∀ k, k < n → 0 ≤ g k) (h1 : ∀ k, k < n → g k ≤ 1000000000) (w : World) (hC : Caps w bT bS bW bF T s x n cap g) :
    Calls Tryz.prog 76 #[.int .i64 i, .int .i64 j, .pointer (some ⟨bF, 0, none⟩)] w fun e w' => e = .returned (.int .i64 (Lib.compareInt (T * g j % s) (T * g i % s))) ∧ ∃ q, w' = w.drewN q := by
  have c4 := hC.fn
  have HA := Lib.hid (fun (k q : Nat) (hk : k < n) => rem_any k bT bS bW bF T s x n cap g hk hn hT0 hT1 hs hs1 (h0 k hk) (h1 k hk) (w.drewN q) (hC.drewN q))
  clear hC h0 h1
  go_enter Tryz.func76, Tryz.ntmps76
  go_wp2
  go_quiet (first | (go_at_call 74; exact quiet_more (HA.out _ _ (by assumption))) | (go_at_call 77; exact quiet_left ((Tryz.cmp_Compare_int _ _ _).mono fun _ _ ⟨a, b⟩ => ⟨a, b.symm⟩)))
  go_wp2
  go_ret
  exact ⟨rfl, _, rfl⟩
end Go.Proofs.YtmgglcfndhfceaaGreatDoor
