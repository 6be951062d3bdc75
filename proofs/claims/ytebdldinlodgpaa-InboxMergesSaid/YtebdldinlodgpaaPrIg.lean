/-
  Layer 8 (inbox): the contracts of the reference's Compare and valid. Condition: the list reads as events.
-/
import Derived.Test.YtebdldinlodgpaaPrId
import Derived.Test.YtebdldinlodgpaaPrIn
import Derived.Test.YtebdldinlodgpaaPrJd
import Derived.BigQuiet
namespace Go.Proofs.Ytebdldinlodgpaa.Ib
open Go Go.RowKit Go.Lib Go.Sort Go.Shelf Go.Proofs Go.Proofs.Ytebdldinlodgpaa Go.Proofs.Ytebdldinlodgpaa.Tp Go.Proofs.Ytebdldinlodgpaa.Gm Go.Proofs.Ytebdldinlodgpaa.Rc Go.Proofs.Ytebdldinlodgpaa.SE
set_option linter.unusedVariables false

theorem cmpL_first : ∀ (l m : List Int) (k : Nat), k < l.length → k < m.length → (∀ j, j < k → l[j]! = m[j]!) → l[k]! ≠ m[k]! → cmpL l m = cmpI l[k]! m[k]!
  | [], _, k, h, _, _, _ => by simp at h
  | _ :: _, [], k, _, h, _, _ => by simp at h
  | a :: l, b :: m, 0, _, _, _, hne => by
    have hne : a ≠ b := by simpa using hne
    rw [cmpL, if_pos (fun e => hne ((cmpI_zero a b).1 e))]
    rfl
  | a :: l, b :: m, k + 1, hk, hm, h, hne => by
    have h0 : a = b := by simpa using h 0 (by omega)
    rw [cmpL, if_neg (by rw [(cmpI_zero a b).2 h0]; simp), cmpL_first l m k (by simpa using hk) (by simpa using hm) (fun j hj => by simpa using h (j + 1) (by omega)) (by simpa using hne)]
    simp
theorem cmpL_same : ∀ (l m : List Int), l.length = m.length → (∀ j, j < l.length → l[j]! = m[j]!) → cmpL l m = 0
  | [], _, _, _ => by simp [cmpL]
  | _ :: _, [], h, _ => by simp at h
  | a :: l, b :: m, hl, h => by
    have h0 : a = b := by simpa using h 0 (by simp)
    rw [cmpL, if_neg (by rw [(cmpI_zero a b).2 h0]; simp)]
    exact cmpL_same l m (by simpa using hl) fun j hj => by simpa using h (j + 1) (by simpa using hj)
theorem cell_seven (w : World) (vs : List Int) (t : TypeId) (i : Nat) (hi : i < vs.length) : (w.alloc (.cells (vs.map (Value.int .i64)).toArray t)).cell? ⟨w.heap.size, i, none⟩ = some (.int .i64 vs[i]!) := by
  rw [World.cell?_alloc_at _ _ _ _ rfl, getElem!_pos vs i hi]
  simp [hi]
set_option maxRecDepth 100000 in
set_option maxHeartbeats 4000000 in
theorem rcmp_any (x y : Ev) (w : World) : Calls Try.prog 35 #[vE x, vE y] w (CmpW (cmpE x y) w) := by
  obtain ⟨a0, a1, a2, a3, a4, a5, a6⟩ := x
  obtain ⟨b0, b1, b2, b3, b4, b5, b6⟩ := y
  unfold CmpW vE cmpE nsE
  simp only
  have G0 : Hid (Gr w ((((w.alloc (.cells #[.int .i64 a0, .int .i64 a1, .int .i64 a2, .int .i64 a3, .int .i64 a4, .int .i64 a5, .int .i64 a6] 26)).alloc (.cells #[.int .i64 b0, .int .i64 b1, .int .i64 b2, .int .i64 b3, .int .i64 b4, .int .i64 b5, .int .i64 b6] 26)).alloc (.cells #[.int .i64 a0, .int .i64 a1, .int .i64 a2, .int .i64 a3, .int .i64 a4, .int .i64 a5, .int .i64 a6] 86)).alloc (.cells #[.int .i64 b0, .int .i64 b1, .int .i64 b2, .int .i64 b3, .int .i64 b4, .int .i64 b5, .int .i64 b6] 86))) := Lib.hid (((((Gr.refl w).alloc _).alloc _).alloc _).alloc _)
  have X1 : Hid (∀ i, i < 7 → ((((w.alloc (.cells #[.int .i64 a0, .int .i64 a1, .int .i64 a2, .int .i64 a3, .int .i64 a4, .int .i64 a5, .int .i64 a6] 26)).alloc (.cells #[.int .i64 b0, .int .i64 b1, .int .i64 b2, .int .i64 b3, .int .i64 b4, .int .i64 b5, .int .i64 b6] 26)).alloc (.cells #[.int .i64 a0, .int .i64 a1, .int .i64 a2, .int .i64 a3, .int .i64 a4, .int .i64 a5, .int .i64 a6] 86)).alloc (.cells #[.int .i64 b0, .int .i64 b1, .int .i64 b2, .int .i64 b3, .int .i64 b4, .int .i64 b5, .int .i64 b6] 86)).cell? ⟨w.heap.size + 2, i, none⟩ = some (.int .i64 [a0, a1, a2, a3, a4, a5, a6][i]!)) := Lib.hid fun i hi => by
    have c := cell_seven ((w.alloc (.cells #[.int .i64 a0, .int .i64 a1, .int .i64 a2, .int .i64 a3, .int .i64 a4, .int .i64 a5, .int .i64 a6] 26)).alloc (.cells #[.int .i64 b0, .int .i64 b1, .int .i64 b2, .int .i64 b3, .int .i64 b4, .int .i64 b5, .int .i64 b6] 26)) [a0, a1, a2, a3, a4, a5, a6] 86 i (by simpa using hi)
    have e : ((w.alloc (.cells #[.int .i64 a0, .int .i64 a1, .int .i64 a2, .int .i64 a3, .int .i64 a4, .int .i64 a5, .int .i64 a6] 26)).alloc (.cells #[.int .i64 b0, .int .i64 b1, .int .i64 b2, .int .i64 b3, .int .i64 b4, .int .i64 b5, .int .i64 b6] 26)).heap.size = w.heap.size + 2 := by rw [show ∀ (W : World) (o : Obj), (W.alloc o).heap.size = W.heap.size + 1 from fun _ _ => Array.size_push _, show ∀ (W : World) (o : Obj), (W.alloc o).heap.size = W.heap.size + 1 from fun _ _ => Array.size_push _]
    rw [e] at c
    exact Lib.cell?_alloc_some _ c
  have X2 : Hid (∀ i, i < 7 → ((((w.alloc (.cells #[.int .i64 a0, .int .i64 a1, .int .i64 a2, .int .i64 a3, .int .i64 a4, .int .i64 a5, .int .i64 a6] 26)).alloc (.cells #[.int .i64 b0, .int .i64 b1, .int .i64 b2, .int .i64 b3, .int .i64 b4, .int .i64 b5, .int .i64 b6] 26)).alloc (.cells #[.int .i64 a0, .int .i64 a1, .int .i64 a2, .int .i64 a3, .int .i64 a4, .int .i64 a5, .int .i64 a6] 86)).alloc (.cells #[.int .i64 b0, .int .i64 b1, .int .i64 b2, .int .i64 b3, .int .i64 b4, .int .i64 b5, .int .i64 b6] 86)).cell? ⟨w.heap.size + 3, i, none⟩ = some (.int .i64 [b0, b1, b2, b3, b4, b5, b6][i]!)) := Lib.hid fun i hi => by
    have c := cell_seven (((w.alloc (.cells #[.int .i64 a0, .int .i64 a1, .int .i64 a2, .int .i64 a3, .int .i64 a4, .int .i64 a5, .int .i64 a6] 26)).alloc (.cells #[.int .i64 b0, .int .i64 b1, .int .i64 b2, .int .i64 b3, .int .i64 b4, .int .i64 b5, .int .i64 b6] 26)).alloc (.cells #[.int .i64 a0, .int .i64 a1, .int .i64 a2, .int .i64 a3, .int .i64 a4, .int .i64 a5, .int .i64 a6] 86)) [b0, b1, b2, b3, b4, b5, b6] 86 i (by simpa using hi)
    have e : (((w.alloc (.cells #[.int .i64 a0, .int .i64 a1, .int .i64 a2, .int .i64 a3, .int .i64 a4, .int .i64 a5, .int .i64 a6] 26)).alloc (.cells #[.int .i64 b0, .int .i64 b1, .int .i64 b2, .int .i64 b3, .int .i64 b4, .int .i64 b5, .int .i64 b6] 26)).alloc (.cells #[.int .i64 a0, .int .i64 a1, .int .i64 a2, .int .i64 a3, .int .i64 a4, .int .i64 a5, .int .i64 a6] 86)).heap.size = w.heap.size + 3 := by rw [show ∀ (W : World) (o : Obj), (W.alloc o).heap.size = W.heap.size + 1 from fun _ _ => Array.size_push _, show ∀ (W : World) (o : Obj), (W.alloc o).heap.size = W.heap.size + 1 from fun _ _ => Array.size_push _, show ∀ (W : World) (o : Obj), (W.alloc o).heap.size = W.heap.size + 1 from fun _ _ => Array.size_push _]
    rw [e] at c
    exact c
  obtain ⟨xs, hxs⟩ : ∃ xs, xs = [a0, a1, a2, a3, a4, a5, a6] := ⟨_, rfl⟩
  obtain ⟨ys, hys⟩ : ∃ ys, ys = [b0, b1, b2, b3, b4, b5, b6] := ⟨_, rfl⟩
  have LX : Hid (xs.length = 7) := Lib.hid (by rw [hxs]; rfl)
  have LY : Hid (ys.length = 7) := Lib.hid (by rw [hys]; rfl)
  rw [← hxs] at X1 ⊢
  rw [← hys] at X2 ⊢
  clear hxs hys
  go_enter Try.func35, Try.ntmps35
  go_wp2_with fail
  generalize ((((w.alloc (.cells #[.int .i64 a0, .int .i64 a1, .int .i64 a2, .int .i64 a3, .int .i64 a4, .int .i64 a5, .int .i64 a6] 26)).alloc (.cells #[.int .i64 b0, .int .i64 b1, .int .i64 b2, .int .i64 b3, .int .i64 b4, .int .i64 b5, .int .i64 b6] 26)).alloc (.cells #[.int .i64 a0, .int .i64 a1, .int .i64 a2, .int .i64 a3, .int .i64 a4, .int .i64 a5, .int .i64 a6] 86)).alloc (.cells #[.int .i64 b0, .int .i64 b1, .int .i64 b2, .int .i64 b3, .int .i64 b4, .int .i64 b5, .int .i64 b6] 86)) = w4 at *
  go_loopw [7] (fun z wr => ∃ k : Nat, k ≤ 7 ∧ z = .int .i64 k ∧ Hid (∀ j, j < k → xs[j]! = ys[j]!) ∧ Hid (Gr w4 wr)) (fun z _ => 7 - (intOf z).toNat)
  case atStart => exact ⟨0, by omega, rfl, Lib.hid (fun j hj => by omega), Lib.hid (Gr.refl _)⟩
  case round =>
    obtain ⟨k, hk, rfl, HE, HG⟩ := hrel
    by_cases hlt : k < 7
    · have t0 : decide ((k : Int) < 7) = true := decide_eq_true (by omega)
      have i0 : (0 : Int) ≤ (k : Int) := by omega
      have i1 : (k : Int) < 7 := by omega
      have c0 := (HG.out.below.cell (World.block_lt_of_cell? w4 _ (X1.out k hlt))).trans (X1.out k hlt)
      have c1 := (HG.out.below.cell (World.block_lt_of_cell? w4 _ (X2.out k hlt))).trans (X2.out k hlt)
      have HF := Lib.hid (fun h => cmpL_first xs ys k (by rw [LX.out]; exact hlt) (by rw [LY.out]; exact hlt) HE.out h)
      have HS : Hid (xs[k]! = ys[k]! → ∀ j, j < k + 1 → xs[j]! = ys[j]!) := Lib.hid fun h0 j hj => by
        by_cases e : j < k
        · exact HE.out j e
        · rw [show j = k by omega]; exact h0
      generalize xs[k]! = x at *
      generalize ys[k]! = y at *
      rcases Int.lt_trichotomy x y with h | h | h
      · have t1 : decide (x < y) = true := decide_eq_true h
        have HR : Hid (cmpL xs ys = -1) := Lib.hid (by rw [HF.out (by omega)]; unfold cmpI; rw [if_pos h])
        clear h HF HS
        go_wp2_with fail
        go_quiet (fail)
        have GG := Lib.hid (G0.out.trans (HG.out.drewN nq))
        go_wp2_with fail
        go_ret
        exact ⟨retI HR.out.symm, GG.out⟩
      · subst h
        have t1 : decide (x < x) = false := decide_eq_false (by omega)
        have HE2 := Lib.hid (HS.out rfl)
        clear HF HS
        go_wp2_with fail
        go_quiet (fail)
        have GQ := Lib.hid (HG.out.drewN nq)
        go_wp2_with fail
        go_quiet (fail)
        have GG := Lib.hid (GQ.out.drewN nq)
        go_wp2_with fail
        go_roundw
        case rel => exact ⟨k + 1, by omega, by go_num, HE2, by have h := GG.out; rw [World.drewN_drewN] at h; exact Lib.hid h⟩
        case measure => simp [intOf]; omega
      · have t1 : decide (x < y) = false := decide_eq_false (by omega)
        have t2 : decide (y < x) = true := decide_eq_true h
        have HR : Hid (cmpL xs ys = 1) := Lib.hid (by rw [HF.out (by omega)]; unfold cmpI; rw [if_neg (by omega), if_pos h])
        clear h HF HS
        go_wp2_with fail
        go_quiet (fail)
        have GQ := Lib.hid (HG.out.drewN nq)
        go_wp2_with fail
        go_quiet (fail)
        have GG := Lib.hid (G0.out.trans (GQ.out.drewN nq))
        go_wp2_with fail
        go_ret
        exact ⟨retI HR.out.symm, GG.out⟩
    · obtain rfl : k = 7 := by omega
      have t0 : decide (((7 : Nat) : Int) < 7) = false := by decide
      have HR : Hid (cmpL xs ys = 0) := Lib.hid (cmpL_same xs ys (by rw [LX.out, LY.out]) fun j hj => HE.out j (by rw [LX.out] at hj; exact hj))
      have GG := Lib.hid (G0.out.trans HG.out)
      go_wp2_with fail
      go_ret
      exact ⟨retI HR.out.symm, GG.out⟩
set_option maxRecDepth 100000 in
set_option maxHeartbeats 2000000 in
theorem rvalidL_any (a : Option Addr) (n cap : Nat) (cs : List Ev) (w : World) (hr : Lst w a n cap cs) :
    Calls Try.prog 76 #[.slice a n cap] w fun e w' => e = .returned (.bool (!badL cs)) ∧ Gr w w' := by
  have HR := Lib.hid hr
  have HL := Lib.hid hr.1.1
  have hn : n ≤ 9223372036854775807 := hr.2.2
  clear hr
  go_enter Try.func76, Try.ntmps76
  go_wp2_with fail
  go_loopw [3] (fun x wr => ∃ k : Nat, k ≤ n ∧ x = .int .i64 k ∧ Hid ((cs.take k).any (fun c => !okE c) = false) ∧ Hid (Gr w wr)) (fun x _ => n - (intOf x).toNat)
  case atStart => exact ⟨0, by omega, rfl, Lib.hid (by simp), Lib.hid (Gr.refl w)⟩
  case round =>
    obtain ⟨k, hk, rfl, HA, HG⟩ := hrel
    by_cases hlt : k < n
    · have t0 : decide ((k : Int) < (n : Int)) = true := decide_eq_true (by omega)
      have i1 : (k : Int) < (n : Int) := by omega
      obtain ⟨x, hx0, _, hc⟩ := (HR.out.more HG.out.below).1.2 (by omega)
      subst hx0
      obtain ⟨c0, c1, c2, c3, c4, c5, c6⟩ := hc k hlt
      have E := Lib.hid (any_take (fun c : Ev => !okE c) cs k (by rw [HL.out]; exact hlt))
      have ET := Lib.hid (fun h => any_of_take (fun c : Ev => !okE c) cs (k + 1) h)
      have V := Lib.hid (fun W => rvalid_any cs[k]! W)
      clear hc
      generalize cs[k]! = c at *
      obtain ⟨a0, a1, a2, a3, a4, a5, a6⟩ := c
      unfold vE at V
      simp only at V c0 c1 c2 c3 c4 c5 c6 E
      generalize okE ⟨a0, a1, a2, a3, a4, a5, a6⟩ = B at *
      go_wp2_with fail
      refine (V.out _).mono ?_
      rintro e w2 ⟨rfl, g2⟩
      have G2 := Lib.hid (HG.out.trans g2)
      clear g2
      cases B with
      | true =>
        have HA2 : Hid ((cs.take (k + 1)).any (fun c => !okE c) = false) := Lib.hid (by rw [E.out, HA.out]; rfl)
        clear HA E ET
        go_wp2_with fail
        go_roundw
        case rel => exact ⟨k + 1, by omega, by go_num, HA2, G2⟩
        case measure => simp [intOf]; omega
      | false =>
        have HB : Hid (badL cs = true) := Lib.hid (ET.out (by rw [E.out]; simp))
        clear HA E ET
        go_wp2_with fail
        go_ret
        exact ⟨by rw [HB.out]; rfl, G2.out⟩
    · obtain rfl : k = n := by omega
      have t0 : decide ((k : Int) < (k : Int)) = false := decide_eq_false (by omega)
      have HB : Hid (badL cs = false) := Lib.hid (by have := HA.out; rwa [List.take_of_length_le (by rw [HL.out]; exact Nat.le_refl _)] at this)
      go_wp2_with fail
      go_ret
      exact ⟨by rw [HB.out]; rfl, HG.out⟩
end Go.Proofs.Ytebdldinlodgpaa.Ib
