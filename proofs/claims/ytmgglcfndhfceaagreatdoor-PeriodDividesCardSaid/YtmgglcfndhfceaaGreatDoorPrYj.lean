/-
  Layer 5 (period): the reference's Portions at weights 0, its Divide, and the program's Divide out of range. Conditions: the contract of Weights at its call.
-/
import Derived.Test.YtmgglcfndhfceaaGreatDoorPrYi
import Derived.Test.YtmgglcfndhfceaaGreatDoorPrEaX
namespace Go.Proofs.YtmgglcfndhfceaaGreatDoor.Per
open Go Go.RowKit Go.Lib Go.Sort Go.Shelf Go.Proofs Go.Proofs.YtmgglcfndhfceaaGreatDoor Go.Proofs.YtmgglcfndhfceaaGreatDoor.Cal Go.Proofs.YtmgglcfndhfceaaGreatDoor.Mg
set_option linter.unusedVariables false

set_option maxRecDepth 100000 in
set_option maxHeartbeats 4000000 in
theorem rpt_zero (k a n mt : Int) (ca : Option Addr) (cn ccap : Nat) (ha : Option Addr) (hn hcap : Nat) (f : Nat → Int) (hcn : cn ≤ 1000) (fb : ∀ i, i < cn + 1 → 0 ≤ f i ∧ f i ≤ 1000) (hS : sumTo f (cn + 1) = 0) (w : World)
    (C : Calls Tryz.prog 23 #[.agg #[.int .i64 k, .int .i64 a], .int .i64 n, .slice ca cn ccap, .int .i64 mt, .slice ha hn hcap] (w.alloc (.cells #[.int .i64 k, .int .i64 a] 27)) (WtsR cn f (w.alloc (.cells #[.int .i64 k, .int .i64 a] 27)))) :
    Calls Tryz.prog 25 #[.agg #[.int .i64 k, .int .i64 a], .int .i64 n, .slice ca cn ccap, .int .i64 mt, .slice ha hn hcap] w (WtsE 5 w) := by
  have CC := Lib.hid C
  have FB := Lib.hid fb
  have HS := Lib.hid hS
  clear C fb hS
  go_enter Tryz.func25, Tryz.ntmps25
  go_wp2_with fail
  refine CC.out.mono ?_
  rintro e w1 ⟨p, cap, rfl, hp0, hp1, hrow, hw1⟩
  have HR := Lib.hid hrow
  have hB1 : Below w.heap.size w w1 := Below.trans ((Below.refl w.heap.size w).alloc (Nat.le_refl _) _) (hw1.mono (by simp))
  clear hrow hw1 hp0
  go_wp2_with fail
  go_loop [14, 15] (fun x z => ∃ i : Nat, i ≤ cn + 1 ∧ z = .int .i64 i ∧ x = .int .i64 (sumTo f i)) (fun _ z => cn + 1 - (intOf z).toNat)
  case atStart => exact ⟨0, by omega, rfl, rfl⟩
  case round =>
    obtain ⟨i, hi, rfl, rfl⟩ := hrel
    have b1 := sumTo_small (f := f) (n := i) fun j hj => FB.out j (by omega)
    obtain ⟨b1, b2⟩ := b1
    by_cases hlt : i < cn + 1
    · have c := HR.out i (by omega)
      have fbi := FB.out i hlt
      obtain ⟨f0, f1⟩ := fbi
      have E := Lib.hid (show sumTo f (i + 1) = sumTo f i + f i from rfl)
      generalize sumTo f i = S at *
      generalize hfi : f i = v at *
      clear hfi
      go_wp2_with fail
      go_round
      case rel => exact ⟨i + 1, by omega, by go_num, by rw [E.out]⟩
      case measure => simp [intOf]; omega
    · obtain rfl : i = cn + 1 := by omega
      rw [HS.out]
      clear b1 b2
      go_wp2_with fail
      go_ret2
      exact ⟨rfl, hB1⟩
set_option maxRecDepth 100000 in
set_option maxHeartbeats 4000000 in
theorem rdd_err (A k a n mt : Int) (ca : Option Addr) (cn ccap : Nat) (ha : Option Addr) (hn hcap : Nat) (c : Int) (hc : (c == 0) = false) (w : World)
    (C : Calls Tryz.prog 23 #[.agg #[.int .i64 k, .int .i64 a], .int .i64 n, .slice ca cn ccap, .int .i64 mt, .slice ha hn hcap] (w.alloc (.cells #[.int .i64 k, .int .i64 a] 27)) (WtsE c (w.alloc (.cells #[.int .i64 k, .int .i64 a] 27)))) :
    Calls Tryz.prog 27 #[.int .i64 A, .agg #[.int .i64 k, .int .i64 a], .int .i64 n, .slice ca cn ccap, .int .i64 mt, .slice ha hn hcap] w (WtsE c w) := by
  have CC := Lib.hid C
  have hc2 : (c != 0) = true := by rw [bne, hc]; rfl
  clear C 
  go_enter Tryz.func27, Tryz.ntmps27
  go_wp2_with fail
  refine CC.out.mono ?_
  rintro e w1 ⟨rfl, hw1⟩
  go_wp2_with fail
  go_ret2
  exact ⟨rfl, Below.trans ((Below.refl w.heap.size w).alloc (Nat.le_refl _) _) (hw1.mono (by simp))⟩
set_option maxRecDepth 100000 in
set_option maxHeartbeats 4000000 in
theorem rdd_zero (A k a n mt : Int) (ca : Option Addr) (cn ccap : Nat) (ha : Option Addr) (hn hcap : Nat) (f : Nat → Int) (hcn : cn ≤ 1000) (A0 : -1000000000 ≤ A) (A1 : A ≤ 1000000000) (f0 : ∀ i, i < cn + 1 → 0 ≤ f i) (f1 : ∀ i, i < cn + 1 → f i ≤ 1000000000) (hS : sumTo f (cn + 1) = 0) (w : World)
    (C : Calls Tryz.prog 23 #[.agg #[.int .i64 k, .int .i64 a], .int .i64 n, .slice ca cn ccap, .int .i64 mt, .slice ha hn hcap] (w.alloc (.cells #[.int .i64 k, .int .i64 a] 27)) (WtsR cn f (w.alloc (.cells #[.int .i64 k, .int .i64 a] 27)))) :
    Calls Tryz.prog 27 #[.int .i64 A, .agg #[.int .i64 k, .int .i64 a], .int .i64 n, .slice ca cn ccap, .int .i64 mt, .slice ha hn hcap] w (WtsE 5 w) := by
  have CC := Lib.hid C
  have C2 := Lib.hid (fun x cap w hr => ra_zero (cn + 1) A x cap f (by omega) A0 A1 f0 f1 hS w hr)
  clear C f0 f1 hS
  go_enter Tryz.func27, Tryz.ntmps27
  go_wp2_with fail
  refine CC.out.mono ?_
  rintro e w1 ⟨p, cap, rfl, hp0, hp1, hrow, hw1⟩
  have HR := Lib.hid (wts_row hrow)
  have hB1 : Below w.heap.size w w1 := Below.trans ((Below.refl w.heap.size w).alloc (Nat.le_refl _) _) (hw1.mono (by simp))
  clear hrow hw1 hp0
  go_wp2_with fail
  refine (C2.out ⟨p, 0, none⟩ cap w1 HR.out).mono ?_
  rintro e w2 ⟨rfl, rfl⟩
  go_wp2_with fail
  go_ret2
  exact ⟨rfl, hB1⟩
set_option maxRecDepth 100000 in
set_option maxHeartbeats 4000000 in
theorem rdd_pos (A s k a n mt : Int) (ca : Option Addr) (cn ccap : Nat) (ha : Option Addr) (hn hcap : Nat) (f : Nat → Int) [Inhabited (Fin (cn + 1))] (hcn : cn ≤ 1000) (A0 : -1000000000 ≤ A) (A1 : A ≤ 1000000000) (f0 : ∀ i, i < cn + 1 → 0 ≤ f i) (f1 : ∀ i, i < cn + 1 → f i ≤ 1000000000) (hS : sumTo f (cn + 1) = s) (hs : 1 ≤ s) (w : World)
    (C : Calls Tryz.prog 23 #[.agg #[.int .i64 k, .int .i64 a], .int .i64 n, .slice ca cn ccap, .int .i64 mt, .slice ha hn hcap] (w.alloc (.cells #[.int .i64 k, .int .i64 a] 27)) (WtsR cn f (w.alloc (.cells #[.int .i64 k, .int .i64 a] 27)))) :
    Calls Tryz.prog 27 #[.int .i64 A, .agg #[.int .i64 k, .int .i64 a], .int .i64 n, .slice ca cn ccap, .int .i64 mt, .slice ha hn hcap] w (DivR (cn + 1) (alloF A s f (cn + 1)) w) := by
  have CC := Lib.hid C
  have C2 := Lib.hid (fun x cap w hx hr => ralloc_pos (cn + 1) A s x cap f (by omega) A0 A1 f0 f1 hS hs w hx hr)
  clear C f0 f1 hS
  go_enter Tryz.func27, Tryz.ntmps27
  go_wp2_with fail
  refine CC.out.mono ?_
  rintro e w1 ⟨p, cap, rfl, hp0, hp1, hrow, hw1⟩
  have HR := Lib.hid (wts_row hrow)
  have hB1 : Below w.heap.size w w1 := Below.trans ((Below.refl w.heap.size w).alloc (Nat.le_refl _) _) (hw1.mono (by simp))
  clear hrow hw1 hp0
  go_wp2_with fail
  refine (C2.out ⟨p, 0, none⟩ cap w1 hp1 HR.out).mono ?_
  rintro e w2 ⟨q, rfl, q0, q1, hrow2, hw2⟩
  go_wp2_with fail
  go_ret2
  exact ⟨q, rfl, Nat.le_trans hB1.size q0, q1, hrow2, hB1.trans (hw2.mono hB1.size)⟩
set_option maxRecDepth 100000 in
set_option maxHeartbeats 4000000 in
theorem rdd_range (A k a n mt : Int) (ca : Option Addr) (cn ccap : Nat) (ha : Option Addr) (hn hcap : Nat) (f : Nat → Int) (hcn : cn ≤ 1000) (hT : A < -1000000000 ∨ 1000000000 < A) (w : World)
    (C : Calls Tryz.prog 23 #[.agg #[.int .i64 k, .int .i64 a], .int .i64 n, .slice ca cn ccap, .int .i64 mt, .slice ha hn hcap] (w.alloc (.cells #[.int .i64 k, .int .i64 a] 27)) (WtsR cn f (w.alloc (.cells #[.int .i64 k, .int .i64 a] 27)))) :
    Calls Tryz.prog 27 #[.int .i64 A, .agg #[.int .i64 k, .int .i64 a], .int .i64 n, .slice ca cn ccap, .int .i64 mt, .slice ha hn hcap] w (WtsE 2 w) := by
  have CC := Lib.hid C
  have C2 := Lib.hid (fun x cap w => ra_range A x (cn + 1) cap (by omega) hT w)
  clear C hT
  go_enter Tryz.func27, Tryz.ntmps27
  go_wp2_with fail
  refine CC.out.mono ?_
  rintro e w1 ⟨p, cap, rfl, hp0, hp1, hrow, hw1⟩
  have HR := Lib.hid (wts_row hrow)
  have hB1 : Below w.heap.size w w1 := Below.trans ((Below.refl w.heap.size w).alloc (Nat.le_refl _) _) (hw1.mono (by simp))
  clear hrow hw1 hp0
  go_wp2_with fail
  refine (C2.out (some ⟨p, 0, none⟩) cap w1).mono ?_
  rintro e w2 ⟨rfl, rfl⟩
  go_wp2_with fail
  go_ret2
  exact ⟨rfl, hB1⟩
set_option maxRecDepth 100000 in
set_option maxHeartbeats 4000000 in
theorem pdd_range (A k a n mt : Int) (ca : Option Addr) (cn ccap : Nat) (ha : Option Addr) (hn hcap : Nat) (f : Nat → Int) (hcn : cn ≤ 1000) (hT : A < -1000000000 ∨ 1000000000 < A) (w : World)
    (C : Calls Tryz.prog 22 #[.agg #[.int .i64 k, .int .i64 a], .int .i64 n, .slice ca cn ccap, .int .i64 mt, .slice ha hn hcap] (w.alloc (.cells #[.int .i64 k, .int .i64 a] 27)) (WtsR cn f (w.alloc (.cells #[.int .i64 k, .int .i64 a] 27)))) :
    Calls Tryz.prog 26 #[.int .i64 A, .agg #[.int .i64 k, .int .i64 a], .int .i64 n, .slice ca cn ccap, .int .i64 mt, .slice ha hn hcap] w (WtsE 2 w) := by
  have CC := Lib.hid C
  have C2 := Lib.hid (fun x cap w => al_range A x (cn + 1) cap (by omega) hT w)
  clear C hT
  go_enter Tryz.func26, Tryz.ntmps26
  go_wp2_with fail
  refine CC.out.mono ?_
  rintro e w1 ⟨p, cap, rfl, hp0, hp1, hrow, hw1⟩
  have HR := Lib.hid (wts_row hrow)
  have hB1 : Below w.heap.size w w1 := Below.trans ((Below.refl w.heap.size w).alloc (Nat.le_refl _) _) (hw1.mono (by simp))
  clear hrow hw1 hp0
  go_wp2_with fail
  refine (C2.out (some ⟨p, 0, none⟩) cap w1).mono ?_
  rintro e w2 ⟨rfl, rfl⟩
  go_wp2_with fail
  go_ret2
  exact ⟨rfl, hB1⟩
end Go.Proofs.YtmgglcfndhfceaaGreatDoor.Per
