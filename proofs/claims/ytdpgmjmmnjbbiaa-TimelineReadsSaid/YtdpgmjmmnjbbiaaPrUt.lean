/-
  Layer 6 (timeline): the law's comparison of two lists that are one: true. Condition: both lists read as the same changes.
-/
import Derived.Test.YtdpgmjmmnjbbiaaPrUr
namespace Go.Proofs.Ytdpgmjmmnjbbiaa.Tl
open Go Go.RowKit Go.Lib Go.Sort Go.Shelf Go.Proofs Go.Proofs.Ytdpgmjmmnjbbiaa Go.Proofs.Ytdpgmjmmnjbbiaa.Tp
set_option linter.unusedVariables false

theorem eqC_self (c : Chg) : eqC c c = true := by simp [eqC]
set_option maxRecDepth 100000 in
set_option maxHeartbeats 4000000 in
theorem same_one (a : Option Addr) (n ca : Nat) (b : Option Addr) (cb : Nat) (cs : List Chg) (hn : n ≤ 1000000) (w : World) (ha : ChgRow w w.heap.size a n cs) (hb : ChgRow w w.heap.size b n cs) :
    Calls Try.prog 15 #[.slice a n ca, .slice b n cb] w (TrueR w) := by
  have HA := Lib.hid ha
  have HB := Lib.hid hb
  have mixed : Try.prog.follows Departure.mixedOrders = true := by kernel_rfl
  have tn : ((n : Int) != (n : Int)) = false := by simp
  clear ha hb
  go_enter Try.func15, Try.ntmps15
  go_wp2
  go_loopw [5] (fun x wr => ∃ k : Nat, k ≤ n ∧ x = .int .i64 k ∧ Hid (Gr w wr)) (fun x _ => n - (intOf x).toNat)
  case atStart => exact ⟨0, by omega, rfl, Lib.hid (Gr.refl w)⟩
  case round =>
    obtain ⟨k, hk, rfl, HG⟩ := hrel
    by_cases hlt : k < n
    · obtain ⟨x, hx0, hx, hcx⟩ := (HA.out.below HG.out.below).2 (by omega)
      obtain ⟨y, hy0, hy, hcy⟩ := (HB.out.below HG.out.below).2 (by omega)
      subst hx0
      subst hy0
      have i1 : (k : Int) < (n : Int) := by omega
      have ax : ∀ n os, (grow (wr.drewN n) os).heap.size ≥ wr.heap.size := fun n os => (Gr.below ⟨n, os, rfl⟩ : Below wr.heap.size wr _).size
      have L1 := fun n os => (hcx k hlt).block ((Gr.below ⟨n, os, rfl⟩ : Below wr.heap.size wr (grow (wr.drewN n) os)).block _ (hcx k hlt).lt)
      have L2 := fun n os => (hcy k hlt).block ((Gr.below ⟨n, os, rfl⟩ : Below wr.heap.size wr (grow (wr.drewN n) os)).block _ (hcy k hlt).lt)
      generalize cs[k]! = c at L1 L2
      obtain ⟨f1, n1, v1, b1⟩ := c
      have a0 := fun n os => (L1 n os).1
      have a1 := fun n os => (L1 n os).2.1
      have a2 := fun n os => (L1 n os).2.2.1
      have a3 := fun n os => (L1 n os).2.2.2
      have e0 := fun n os => (L2 n os).1
      have e1 := fun n os => (L2 n os).2.1
      have e2 := fun n os => (L2 n os).2.2.1
      have e3 := fun n os => (L2 n os).2.2.2
      simp only at a0 a1 a2 a3 e0 e1 e2 e3
      have HF := fun W => neq_chg ⟨f1, n1, v1, b1⟩ ⟨f1, n1, v1, b1⟩ W
      have HG2 := fun op a b W => run_eqGuard_agg (P := Try.prog) W op 42 a b #[.int .i64 f1, .int .i64 n1, .int .i64 v1, .bool b1] #[.int .i64 f1, .int .i64 n1, .int .i64 v1, .bool b1] grd_chg
      simp only [eqC_self] at HF
      clear L1 L2 hcx hcy ax
      go_wp2_with fail
      go_quiet_grown (fail)
      have G2 := Lib.hid (HG.out.trans (⟨nq, osq, rfl⟩ : Gr wr (grow (wr.drewN nq) osq)))
      clear a0 a1 a2 a3 e0 e1 e2 e3 HF HG2
      generalize grow (wr.drewN nq) osq = wx at *
      go_wp2_with fail
      go_roundw
      case rel => exact ⟨k + 1, by omega, by go_num, G2⟩
      case measure => simp [intOf]; omega
    · obtain rfl : k = n := by omega
      have t0 : decide ((k : Int) < (k : Int)) = false := decide_eq_false (by omega)
      go_wp2
      go_ret
      exact ⟨rfl, HG.out.below⟩
/-- A slice of a list, from a place on. -/
theorem row_drop {w : World} {B g n : Nat} {cs : List Chg} (h : ChgRow w B (some ⟨g, 0, none⟩) n cs) (k : Nat) (hk : k ≤ n) : ChgRow w B (some ⟨g, k * 4, none⟩) (n - k) (cs.drop k) := by
  refine ⟨by rw [List.length_drop, h.1], fun hn => ?_⟩
  obtain ⟨x, hx, hb, hc⟩ := h.2 (by omega)
  injection hx with hx; subst hx
  refine ⟨_, rfl, hb, fun i hi => ?_⟩
  have c := hc (k + i) (by omega)
  rw [add_z] at c
  rw [Addr.add_lit, show k * 4 + i * 4 = (k + i) * 4 by omega, show (cs.drop k)[i]! = cs[k + i]! by
    have h1 : i < (cs.drop k).length := by rw [List.length_drop, h.1]; omega
    rw [getElem!_pos (cs.drop k) i h1, getElem!_pos cs (k + i) (by rw [h.1]; omega), List.getElem_drop]]
  exact c
theorem row_take {w : World} {B n : Nat} {a : Option Addr} {cs : List Chg} (h : ChgRow w B a n cs) (k : Nat) (hk : k ≤ n) : ChgRow w B a k (cs.take k) := by
  refine ⟨by rw [List.length_take, h.1]; omega, fun hn => ?_⟩
  obtain ⟨x, hx, hb, hc⟩ := h.2 (by omega)
  refine ⟨x, hx, hb, fun i hi => ?_⟩
  rw [show (cs.take k)[i]! = cs[i]! by
    have h1 : i < (cs.take k).length := by rw [List.length_take, h.1]; omega
    rw [getElem!_pos (cs.take k) i h1, getElem!_pos cs i (by rw [h.1]; omega), List.getElem_take]]
  exact hc i (by omega)
end Go.Proofs.Ytdpgmjmmnjbbiaa.Tl
