/-
  Layer 5 (period): contracts of Divide: the error of Weights, and what Allocate gives. Conditions: the contract of Weights at its call.
-/
import Derived.Test.YtcdilaembophlaaGreatDoorPrYe
import Derived.Test.YtcdilaembophlaaGreatDoorPrAlloX
namespace Go.Proofs.YtcdilaembophlaaGreatDoor.Per
open Go Go.RowKit Go.Lib Go.Sort Go.Shelf Go.Proofs Go.Proofs.YtcdilaembophlaaGreatDoor Go.Proofs.YtcdilaembophlaaGreatDoor.Cal Go.Proofs.YtcdilaembophlaaGreatDoor.Mg
set_option linter.unusedVariables false

/-- A row of n parts and no error. -/
def DivR (n : Nat) (f : Nat → Int) (w : World) (e : Ending) (w' : World) : Prop := ∃ p, e = .returned (.tuple #[.slice (some ⟨p, 0, none⟩) n n, .int .i64 0]) ∧ w.heap.size ≤ p ∧ p < w'.heap.size ∧ RowI w' p n f ∧ Below w.heap.size w w'
theorem WtsR.congr {n : Nat} {f g : Nat → Int} {w w' : World} {e : Ending} (h : WtsR n f w e w') (c : ∀ i, i ≤ n → f i = g i) : WtsR n g w e w' := by
  obtain ⟨p, cap, h1, h2, h3, h4, h5⟩ := h
  exact ⟨p, cap, h1, h2, h3, fun i hi => by rw [← c i hi]; exact h4 i hi, h5⟩
theorem wts_row {w : World} {p n : Nat} {f : Nat → Int} (h : ∀ i, i ≤ n → w.cell? ⟨p, i, none⟩ = some (.int .i64 (f i))) : WRow w ⟨p, 0, none⟩ (n + 1) f := by
  intro i hi
  have e : (⟨p, 0, none⟩ : Addr).add i = ⟨p, i, none⟩ := by unfold Addr.add; split <;> simp_all
  rw [e]; exact h i (by omega)

set_option maxRecDepth 100000 in
set_option maxHeartbeats 2000000 in
theorem pdd_err (A k a n mt : Int) (ca : Option Addr) (cn ccap : Nat) (ha : Option Addr) (hn hcap : Nat) (c : Int) (hc : (c == 0) = false) (w : World)
    (C : Calls Tryz.prog 16 #[.agg #[.int .i64 k, .int .i64 a], .int .i64 n, .slice ca cn ccap, .int .i64 mt, .slice ha hn hcap] (w.alloc (.cells #[.int .i64 k, .int .i64 a] 27)) (WtsE c (w.alloc (.cells #[.int .i64 k, .int .i64 a] 27)))) :
    Calls Tryz.prog 18 #[.int .i64 A, .agg #[.int .i64 k, .int .i64 a], .int .i64 n, .slice ca cn ccap, .int .i64 mt, .slice ha hn hcap] w (WtsE c w) := by
  have CC := Lib.hid C
  clear C
  have hc2 : (c != 0) = true := by rw [bne, hc]; rfl
  go_enter Tryz.func18, Tryz.ntmps18
  go_wp2_with fail
  refine CC.out.mono ?_
  rintro e w1 ⟨rfl, hw1⟩
  go_wp2_with fail
  go_ret2
  exact ⟨rfl, Below.trans ((Below.refl w.heap.size w).alloc (Nat.le_refl _) _) (hw1.mono (by simp))⟩
set_option maxRecDepth 100000 in
set_option maxHeartbeats 2000000 in
theorem pdd_pos (A s k a n mt : Int) (ca : Option Addr) (cn ccap : Nat) (ha : Option Addr) (hn hcap : Nat) (f : Nat → Int) [Inhabited (Fin (cn + 1))] (hcn : cn ≤ 1000) (A0 : -1000000000 ≤ A) (A1 : A ≤ 1000000000) (f0 : ∀ i, i < cn + 1 → 0 ≤ f i) (f1 : ∀ i, i < cn + 1 → f i ≤ 1000000000) (hS : sumTo f (cn + 1) = s) (hs : 1 ≤ s) (w : World)
    (C : Calls Tryz.prog 16 #[.agg #[.int .i64 k, .int .i64 a], .int .i64 n, .slice ca cn ccap, .int .i64 mt, .slice ha hn hcap] (w.alloc (.cells #[.int .i64 k, .int .i64 a] 27)) (WtsR cn f (w.alloc (.cells #[.int .i64 k, .int .i64 a] 27)))) :
    Calls Tryz.prog 18 #[.int .i64 A, .agg #[.int .i64 k, .int .i64 a], .int .i64 n, .slice ca cn ccap, .int .i64 mt, .slice ha hn hcap] w (DivR (cn + 1) (alloF A s f (cn + 1)) w) := by
  have CC := Lib.hid C
  have C2 := Lib.hid (fun x cap w hx hr => alloc_pos (cn + 1) A s x cap f (by omega) A0 A1 f0 f1 hS hs w hx hr)
  clear C f0 f1 hS
  go_enter Tryz.func18, Tryz.ntmps18
  go_wp2_with fail
  refine CC.out.mono ?_
  rintro e w1 ⟨p, cap, rfl, hp0, hp1, hrow, hw1⟩
  have HR := Lib.hid (wts_row hrow)
  have hB1 : Below w.heap.size w w1 := Below.trans ((Below.refl w.heap.size w).alloc (Nat.le_refl _) _) (hw1.mono (by simp))
  clear hrow hw1 hp0
  go_wp2_with fail
  refine (C2.out ⟨p, 0, none⟩ cap w1 hp1 HR.out).mono ?_
  rintro e w2 ⟨rfl, hR, hw2⟩
  have HR2 := Lib.hid hR
  have hB2 := hB1.trans (hw2.mono hB1.size)
  have sz := hB1.size
  have hlt : w1.heap.size + 3 < w2.heap.size := World.block_lt_of_cell? w2 ⟨w1.heap.size + 3, 0, none⟩ (hR.cell 0 (by omega))
  clear hR hw2
  go_wp2_with fail
  go_ret2
  exact ⟨w1.heap.size + 3, rfl, by omega, hlt, HR2.out, hB2⟩
end Go.Proofs.YtcdilaembophlaaGreatDoor.Per
