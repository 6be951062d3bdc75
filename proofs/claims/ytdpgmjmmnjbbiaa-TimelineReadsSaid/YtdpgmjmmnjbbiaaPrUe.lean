/-
  Layer 6 (timeline): contracts of slices.CompactFunc and slices.Compact at a row of changes. Conditions: the row lies in a block of the call's own; what the function value answers.
-/
import Derived.Test.YtdpgmjmmnjbbiaaPrUd
namespace Go.Proofs.Ytdpgmjmmnjbbiaa.Tl
open Go Go.RowKit Go.Lib Go.Sort Go.Shelf Go.Proofs Go.Proofs.Ytdpgmjmmnjbbiaa Go.Proofs.Ytdpgmjmmnjbbiaa.Tp
set_option linter.unusedVariables false

theorem go_range {α : Type} [Inhabited α] (eq : α → α → Bool) : ∀ (p : α) (l : List α), comp.go eq p l = ((List.range l.length).filter fun j => !eq l[j]! (if j = 0 then p else l[j - 1]!)).map (l[·]!)
  | _, [] => rfl
  | p, b :: r => by
    have ih := go_range eq b r
    have e : (List.map Nat.succ (List.range r.length)).filter (fun j => !eq (b :: r)[j]! (if j = 0 then p else (b :: r)[j - 1]!)) = List.map Nat.succ ((List.range r.length).filter fun j => !eq r[j]! (if j = 0 then b else r[j - 1]!)) := by
      rw [List.filter_map]
      congr 1
      apply List.filter_congr
      intro j hj
      cases j with
      | zero => simp
      | succ j => simp
    rw [comp.go, List.length_cons, List.range_succ_eq_map, List.filter_cons, e]
    by_cases h : eq b p = true
    · simp [h, ih, List.map_map, Function.comp_def]
    · simp [h, ih, List.map_map, Function.comp_def]
/-- Which places compact keeps. -/
def kpE (eq : Chg → Chg → Bool) (d : Array Chg) (j : Nat) : Bool := decide (j = 0) || !eq d[j]! d[j - 1]!
theorem comp_kept (eq : Chg → Chg → Bool) (d : Array Chg) : keptUpTo (kpE eq d) d d.size = comp eq d.toList := by
  obtain ⟨l⟩ := d
  unfold keptUpTo
  cases l with
  | nil => rfl
  | cons a r =>
    rw [comp, go_range]
    show ((List.range (a :: r).length).filter _).map _ = _
    rw [List.length_cons, List.range_succ_eq_map, List.filter_cons]
    have e : (List.map Nat.succ (List.range r.length)).filter (kpE eq ⟨a :: r⟩) = List.map Nat.succ ((List.range r.length).filter fun j => !eq r[j]! (if j = 0 then a else r[j - 1]!)) := by
      rw [List.filter_map]
      congr 1
      apply List.filter_congr
      intro j hj
      cases j with
      | zero => simp [kpE]
      | succ j => simp [kpE]
    rw [e]
    simp [kpE, List.map_map, Function.comp_def]
theorem comp_small (eq : Chg → Chg → Bool) (d : Array Chg) (h : d.size < 2) : comp eq d.toList = d.toList := by
  obtain ⟨l⟩ := d
  match l, h with
  | [], _ => rfl
  | [a], _ => rfl
  | _ :: _ :: _, h => simp at h; omega
/-- A closure that compares two elements. -/
def EqC (f : Nat) (eq : Chg → Chg → Bool) (g : Nat) (w : World) : Prop :=
  (∀ args w, (callFunc f args).run Try.prog w = .ok (.enter f args) w) ∧ ∀ (a b : Chg) (W : World), Only g w W → Calls Try.prog f #[vC a, vC b] W fun e w' => e = .returned (.bool (eq a b)) ∧ ∃ q os, w' = grow (W.drewN q) os
theorem EqC.step {f g : Nat} {eq : Chg → Chg → Bool} {w W : World} (h : EqC f eq g w) (ho : Only g w W) : EqC f eq g W := ⟨h.1, fun a b V hV => h.2 a b V (ho.trans hV)⟩
/-- The model's '==' at changes. -/
theorem equal_chg (x y : Chg) (w : World) : (Op.equalIn 10000 42 (.agg #[.int .i64 x.fr, .int .i64 x.kn, .int .i64 x.va, .bool x.de]) (.agg #[.int .i64 y.fr, .int .i64 y.kn, .int .i64 y.va, .bool y.de])).run Try.prog w = .ok (decide (x = y)) w := by
  have hS : Try.prog.underlying 42 = some (.struct (Try.prog.fieldsOf 42)) := by kernel_rfl
  have hp : Try.prog.stoodInHeld 42 = false := by kernel_rfl
  have u3 := Try.underlying3
  have a3 := Try.isAgg3
  have z3 := Try.sizeOf3
  have u4 := Try.underlying4
  have a4 := Try.isAgg4
  have z4 := Try.sizeOf4
  rw [show (10000 : Nat) = 9999 + 1 from rfl, run_equalIn_agg w 9999 42 _ _ hS hp]
  simp only [Program.fieldsOf, Try.underlying42]
  go_simp
  obtain ⟨f1, n1, v1, b1⟩ := x
  obtain ⟨f2, n2, v2, b2⟩ := y
  by_cases h1 : f1 = f2 <;> by_cases h2 : n1 = n2 <;> by_cases h3 : v1 = v2 <;> by_cases h4 : b1 = b2 <;> simp [h1, h2, h3, h4]
theorem eql_chg (x y : Chg) (w : World) : (binOp .eql 42 (.agg #[.int .i64 x.fr, .int .i64 x.kn, .int .i64 x.va, .bool x.de]) (.agg #[.int .i64 y.fr, .int .i64 y.kn, .int .i64 y.va, .bool y.de])).run Try.prog w = .ok (.bool (eqC x y)) w := by
  rw [run_eql_struct, equal_chg]; rfl
theorem neq_chg (x y : Chg) (w : World) : (binOp .neq 42 (.agg #[.int .i64 x.fr, .int .i64 x.kn, .int .i64 x.va, .bool x.de]) (.agg #[.int .i64 y.fr, .int .i64 y.kn, .int .i64 y.va, .bool y.de])).run Try.prog w = .ok (.bool (!eqC x y)) w := by
  rw [run_neq_struct, equal_chg]; rfl
theorem grd_chg : Try.prog.eqGuardType Try.prog.depth 42 = false := by kernel_rfl
theorem only_gd (w : World) (g n : Nat) (os : Array Obj) : Only g w (grow (w.drewN n) os) := Only.of_below (Gr.below ⟨n, os, rfl⟩)

set_option maxRecDepth 100000 in
set_option maxHeartbeats 8000000 in
theorem cpf_own (f : Nat) (eq : Chg → Chg → Bool) (g cap : Nat) (d : Array Chg) (w : World) (hr : RowC w g d) (hg : g < w.heap.size) (hsz : d.size ≤ 1000000) (hcap : d.size ≤ cap) (hp : EqC f eq g w) :
    Calls Try.prog 54 #[.slice (some ⟨g, 0, none⟩) d.size cap, .func (.func f) #[] #[]] w (DelR g cap (comp eq d.toList) w) := by
  have HR := Lib.hid hr
  have eg := hp.1
  have HP := Lib.hid hp.2
  clear hp
  by_cases h2 : d.size < 2
  · rw [comp_small eq d h2]
    clear hr
    go_enter Try.func54, Try.ntmps54
    go_wp2
    go_ret
    exact ⟨retSl (by simp), by simpa using HR.out, Only.refl _ _⟩
  · obtain ⟨kp, HK⟩ : ∃ kp : Nat → Bool, Hid (kp = kpE eq d) := ⟨_, rfl⟩
    have HC := Lib.hid (comp_kept eq d)
    rw [← HK.out] at HC
    rw [← HC.out]
    have KN : Hid (∀ j, 0 < j → kp j = !eq d[j]! d[j - 1]!) := Lib.hid fun j hj => by rw [HK.out]; unfold kpE; simp [show j ≠ 0 by omega]
    have K00 : Hid (kp 0 = true) := Lib.hid (by rw [HK.out]; rfl)
    have mixed : Try.prog.follows Departure.mixedOrders = true := by kernel_rfl
    clear hr HC HK
    go_enter Try.func54, Try.ntmps54
    go_wp2
    go_loopw [5] (fun x wr => ∃ q : Nat, q + 1 ≤ d.size ∧ x = .int .i64 ((q + 1 : Nat) : Int) ∧ Hid (∀ j, j < q + 1 → kp j = true) ∧ Hid (RowC wr g d) ∧ Hid (Only g w wr)) (fun x _ => d.size - (intOf x).toNat)
    case atStart => exact ⟨0, by omega, rfl, Lib.hid (fun j hj => by rw [show j = 0 by omega]; exact K00.out), HR, Lib.hid (Only.refl _ _)⟩
    case round =>
      clear HR
      obtain ⟨q, hq, rfl, HA, HR1, HO⟩ := hrel
      have hgs : g < wr.heap.size := Nat.lt_of_lt_of_le hg HO.out.size
      by_cases hlt : q + 1 < d.size
      · have hD1 : IntKind.i64.wrap (((q + 1 : Nat) : Int) - 1) = (q : Int) := by rw [IntKind.wrap_i64]; omega
        have hD2 : ((q + 1 : Nat) : Int) - 1 = (q : Int) := by omega
        have hD3 : IntKind.i64.wrap (q : Int) = (q : Int) := by rw [IntKind.wrap_i64]; omega
        have HN := Lib.hid (KN.out (q + 1) (by omega))
        rw [Nat.add_sub_cancel] at HN
        have L1 := fun n os => (HR1.out.below (Gr.below ⟨n, os, rfl⟩ : Below wr.heap.size wr (grow (wr.drewN n) os)) hgs).cell (q + 1) hlt
        have L2 := fun n os => (HR1.out.below (Gr.below ⟨n, os, rfl⟩ : Below wr.heap.size wr (grow (wr.drewN n) os)) hgs).cell q (by omega)
        have HA2 : Hid (kp (q + 1) = true → ∀ j, j < q + 1 + 1 → kp j = true) := Lib.hid fun h j hj => by
          by_cases e : j < q + 1
          · exact HA.out j e
          · rw [show j = q + 1 by omega]; exact h
        have hk0 : q < q + 1 := by omega
        have iq : (q : Int) < (d.size : Int) := by omega
        have ik : ((q + 1 : Nat) : Int) < (d.size : Int) := by omega
        have ST := Lib.hid (fun h => KeptInv.start (kp := kp) (d := d) (k0 := q + 1) HA.out h)
        generalize q + 1 = k1 at *
        generalize hx : d[k1]! = x at L1 HN
        generalize hy : d[q]! = y at L2 HN
        obtain ⟨f1, n1, v1, b1⟩ := x
        obtain ⟨f2, n2, v2, b2⟩ := y
        have a0 := fun n os => (L1 n os).1
        have a1 := fun n os => (L1 n os).2.1
        have a2 := fun n os => (L1 n os).2.2.1
        have a3 := fun n os => (L1 n os).2.2.2
        have e0 := fun n os => (L2 n os).1
        have e1 := fun n os => (L2 n os).2.1
        have e2 := fun n os => (L2 n os).2.2.1
        have e3 := fun n os => (L2 n os).2.2.2
        simp only at a0 a1 a2 a3 e0 e1 e2 e3
        clear L1 L2 hx hy HA
        have CE : Hid (∀ n os, Calls Try.prog f #[.agg #[.int .i64 f1, .int .i64 n1, .int .i64 v1, .bool b1], .agg #[.int .i64 f2, .int .i64 n2, .int .i64 v2, .bool b2]] (grow (wr.drewN n) os) fun e w' => e = .returned (.bool (eq ⟨f1, n1, v1, b1⟩ ⟨f2, n2, v2, b2⟩)) ∧ ∃ q os', w' = grow ((grow (wr.drewN n) os).drewN q) os') := Lib.hid fun n os => HP.out ⟨f1, n1, v1, b1⟩ ⟨f2, n2, v2, b2⟩ _ (Only.gr HO.out ⟨n, os, rfl⟩)
        generalize eq ⟨f1, n1, v1, b1⟩ ⟨f2, n2, v2, b2⟩ = B at HN CE
        go_wp2_with fail
        go_quiet_grown (first | (go_at_fn f; refine Calls.grown_of (CE.out _ _)))
        clear CE
        clear a0 a1 a2 a3 e0 e1 e2 e3 hD1 hD2 hD3
        have R2 := Lib.hid (HR1.out.below (Gr.below ⟨nq, osq, rfl⟩ : Below wr.heap.size wr (grow (wr.drewN nq) osq)) hgs)
        have O2 := Lib.hid (Only.gr HO.out (⟨nq, osq, rfl⟩ : Gr wr (grow (wr.drewN nq) osq)))
        generalize grow (wr.drewN nq) osq = wx at *
        clear HR1 HO hgs nq osq
        cases B with
        | false =>
          go_wp2_with fail
          go_roundw
          case rel => exact ⟨k1, by omega, by go_num, Lib.hid (HA2.out HN.out), R2, O2⟩
          case measure => simp [intOf]; omega
        | true =>
          have HI0 := Lib.hid (ST.out HN.out)
          have g1 : (k1 : Int) ≤ (d.size : Int) := by omega
          have g2 : (k1 : Int) ≤ (cap : Int) := by omega
          clear ST HN HA2
          go_wp2_with fail
          go_loopg [5, 7] d.size (fun gg s5 s7 wr => ∃ (i j : Nat) (dk : Array Chg), s5 = .int .i64 i ∧ s7 = .int .i64 ((j + 1 : Nat) : Int) ∧ k1 + (j + 1) ≤ d.size ∧ d.size - j ≤ gg ∧ i < k1 + (j + 1) ∧ dk.size = d.size ∧ Hid (KeptInv kp d (k1 + (j + 1)) i dk) ∧ Hid (RowC wr g dk) ∧ Hid (Only g w wr))
          case atStart => exact ⟨k1, 0, d, rfl, rfl, by omega, by omega, by omega, rfl, HI0, R2, O2⟩
          case round =>
            clear HI0 R2 O2
            obtain ⟨i, j, dk, rfl, rfl, hjd, hgg, hij, hds, HI, HR1, HO⟩ := hrel
            have hgs : g < wr.heap.size := Nat.lt_of_lt_of_le hg HO.out.size
            by_cases hlt : k1 + (j + 1) < d.size
            · have t1 : decide (((j + 1 : Nat) : Int) < ((d.size - k1 : Nat) : Int)) = true := decide_eq_true (by omega)
              have hD1 : IntKind.i64.wrap (((j + 1 : Nat) : Int) - 1) = (j : Int) := by rw [IntKind.wrap_i64]; omega
              have hD2 : ((j + 1 : Nat) : Int) - 1 = (j : Int) := by omega
              have hD3 : IntKind.i64.wrap (j : Int) = (j : Int) := by rw [IntKind.wrap_i64]; omega
              have i1 : ((j + 1 : Nat) : Int) < ((d.size - k1 : Nat) : Int) := by omega
              have i2 : (j : Int) < ((d.size - k1 : Nat) : Int) := by omega
              have HN := Lib.hid (KN.out (k1 + (j + 1)) (by omega))
              rw [show k1 + (j + 1) - 1 = k1 + j by omega] at HN
              have L1 := fun n os => (HR1.out.below (Gr.below ⟨n, os, rfl⟩ : Below wr.heap.size wr (grow (wr.drewN n) os)) hgs).cell (k1 + (j + 1)) (by omega)
              have L2 := fun n os => (HR1.out.below (Gr.below ⟨n, os, rfl⟩ : Below wr.heap.size wr (grow (wr.drewN n) os)) hgs).cell (k1 + j) (by omega)
              rw [HI.out.high (k1 + (j + 1)) (by omega), Nat.add_mul] at L1
              rw [HI.out.high (k1 + j) (by omega), Nat.add_mul] at L2
              have KEEP := Lib.hid (fun h => HI.out.keep hlt h)
              have SKIP := Lib.hid (fun h => HI.out.skip (m := k1 + (j + 1)) h)
              have hj0 : j < j + 1 := by omega
              rw [show k1 + (j + 1) + 1 = k1 + (j + 1 + 1) by omega] at KEEP SKIP
              generalize j + 1 = j1 at *
              generalize hx : d[k1 + j1]! = x at L1 HN KEEP
              generalize hy : d[k1 + j]! = y at L2 HN
              obtain ⟨f1, n1, v1, b1⟩ := x
              obtain ⟨f2, n2, v2, b2⟩ := y
              have a0 := fun n os => (L1 n os).1
              have a1 := fun n os => (L1 n os).2.1
              have a2 := fun n os => (L1 n os).2.2.1
              have a3 := fun n os => (L1 n os).2.2.2
              have e0 := fun n os => (L2 n os).1
              have e1 := fun n os => (L2 n os).2.1
              have e2 := fun n os => (L2 n os).2.2.1
              have e3 := fun n os => (L2 n os).2.2.2
              simp only at a0 a1 a2 a3 e0 e1 e2 e3
              clear L1 L2 hx hy HI
              have CE : Hid (∀ n os, Calls Try.prog f #[.agg #[.int .i64 f1, .int .i64 n1, .int .i64 v1, .bool b1], .agg #[.int .i64 f2, .int .i64 n2, .int .i64 v2, .bool b2]] (grow (wr.drewN n) os) fun e w' => e = .returned (.bool (eq ⟨f1, n1, v1, b1⟩ ⟨f2, n2, v2, b2⟩)) ∧ ∃ q os', w' = grow ((grow (wr.drewN n) os).drewN q) os') := Lib.hid fun n os => HP.out ⟨f1, n1, v1, b1⟩ ⟨f2, n2, v2, b2⟩ _ (Only.gr HO.out ⟨n, os, rfl⟩)
              generalize eq ⟨f1, n1, v1, b1⟩ ⟨f2, n2, v2, b2⟩ = B at HN CE
              go_wp2_with fail
              go_quiet_grown (first | (go_at_fn f; refine Calls.grown_of (CE.out _ _)))
              clear CE
              have z0 := a0 nq osq
              have z1 := a1 nq osq
              have z2 := a2 nq osq
              have z3 := a3 nq osq
              clear a0 a1 a2 a3 e0 e1 e2 e3 hD1 hD2 hD3
              have R2 := Lib.hid (HR1.out.below (Gr.below ⟨nq, osq, rfl⟩ : Below wr.heap.size wr (grow (wr.drewN nq) osq)) hgs)
              have O2 := Lib.hid (Only.gr HO.out (⟨nq, osq, rfl⟩ : Gr wr (grow (wr.drewN nq) osq)))
              generalize grow (wr.drewN nq) osq = wx at *
              clear HR1 HO hgs nq osq
              cases B with
              | true =>
                go_wp2_with fail
                go_roundg (d.size - j1)
                case measure => omega
                case rel => exact ⟨i, j1, dk, rfl, by go_num, by omega, Nat.le_refl _, by omega, hds, Lib.hid (SKIP.out HN.out), R2, O2⟩
              | false =>
                obtain ⟨p0, p1, p2, p3⟩ := R2.out.cell i (by omega)
                have r0 := R2.out.free (i * 4) (by omega)
                have r1 := R2.out.free (i * 4 + 1) (by omega)
                have r2 := R2.out.free (i * 4 + 2) (by omega)
                have r3 := R2.out.free (i * 4 + 3) (by omega)
                have hi1 : (i : Int) < (d.size : Int) := by omega
                go_wp2_with fail
                go_roundg (d.size - j1)
                case measure => omega
                case rel =>
                  refine ⟨i + 1, j1, dk.setIfInBounds i ⟨f1, n1, v1, b1⟩, by go_num, by go_num, by omega, Nat.le_refl _, by omega, by simpa using hds, Lib.hid (KEEP.out HN.out), Lib.hid (R2.out.set (by omega) ⟨f1, n1, v1, b1⟩), Lib.hid ?_⟩
                  exact Only.setCell (Only.setCell (Only.setCell (Only.setCell O2.out (.inl rfl) _) (.inl rfl) _) (.inl rfl) _) (.inl rfl) _
            · have hjz : k1 + (j + 1) = d.size := by omega
              have t1 : decide (((j + 1 : Nat) : Int) < ((d.size - k1 : Nat) : Int)) = false := decide_eq_false (by omega)
              rw [hjz] at HI
              obtain ⟨VS, HCL⟩ := clear_run g i (d.size - i) (cap - i) wr (by omega) (fun t ht => by
                obtain ⟨a0, a1, a2, a3⟩ := HR1.out.cell (i + t / 4) (by omega)
                have e : t = t / 4 * 4 + t % 4 := by omega
                have hm : t % 4 < 4 := by omega
                generalize t % 4 = r at *
                generalize t / 4 = q at *
                subst e
                rw [show i * 4 + (q * 4 + r) = (i + q) * 4 + r by omega]
                rcases r with _ | _ | _ | _ | r
                · rw [Nat.add_zero, a0]; rfl
                · rw [show World.cell? wr ⟨g, (i + q) * 4 + 1, none⟩ = _ from a1]; rfl
                · rw [show World.cell? wr ⟨g, (i + q) * 4 + 2, none⟩ = _ from a2]; rfl
                · rw [show World.cell? wr ⟨g, (i + q) * 4 + 3, none⟩ = _ from a3]; rfl
                · omega) (fun t ht => HR1.out.free _ (by omega))
              have hi2 : (i : Int) ≤ (d.size : Int) := by omega
              have hi3 : (i : Int) ≤ (cap : Int) := by omega
              go_wp2
              go_ret
              refine ⟨retSl HI.out.len.symm, kept_row HI.out HR1.out VS, only_setCells _ _ _ HO.out⟩
      · have hqz : q + 1 = d.size := by omega
        rw [hqz] at HA
        have e3 : keptUpTo kp d d.size = d.toList := by
          rw [keptUpTo_all kp d _ HA.out]
          exact range_map_get d
        have t1 : decide (((q + 1 : Nat) : Int) < (d.size : Int)) = false := decide_eq_false (by omega)
        have E3 := Lib.hid e3
        clear e3
        go_wp2
        go_ret
        refine ⟨retSl (by rw [E3.out]; simp), ?_, HO.out⟩
        rw [E3.out]
        exact HR1.out
theorem eqC_bool (a b : Chg) : eqC a b = (a.fr == b.fr && (a.kn == b.kn && (a.va == b.va && (a.de == b.de)))) := by
  unfold eqC
  by_cases h : a = b
  · subst h; simp
  · rw [decide_eq_false h]
    symm
    rcases Bool.eq_false_or_eq_true (a.fr == b.fr && (a.kn == b.kn && (a.va == b.va && (a.de == b.de)))) with e | e
    · simp only [Bool.and_eq_true, beq_iff_eq] at e
      exact absurd (Chg.ext' e.1 e.2.1 e.2.2.1 e.2.2.2) h
    · exact e

set_option maxRecDepth 100000 in
set_option maxHeartbeats 8000000 in
theorem cps_own (g cap : Nat) (d : Array Chg) (w : World) (hr : RowC w g d) (hg : g < w.heap.size) (hsz : d.size ≤ 1000000) (hcap : d.size ≤ cap) :
    Calls Try.prog 30 #[.slice (some ⟨g, 0, none⟩) d.size cap] w (DelR g cap (comp eqC d.toList) w) := by
  have HR := Lib.hid hr
  by_cases h2 : d.size < 2
  · rw [comp_small eqC d h2]
    clear hr
    go_enter Try.func30, Try.ntmps30
    go_wp2
    go_ret
    exact ⟨retSl (by simp), by simpa using HR.out, Only.refl _ _⟩
  · obtain ⟨kp, HK⟩ : ∃ kp : Nat → Bool, Hid (kp = kpE eqC d) := ⟨_, rfl⟩
    have HC := Lib.hid (comp_kept eqC d)
    rw [← HK.out] at HC
    rw [← HC.out]
    have KN : Hid (∀ j, 0 < j → kp j = !eqC d[j]! d[j - 1]!) := Lib.hid fun j hj => by rw [HK.out]; unfold kpE; simp [show j ≠ 0 by omega]
    have K00 : Hid (kp 0 = true) := Lib.hid (by rw [HK.out]; rfl)
    have mixed : Try.prog.follows Departure.mixedOrders = true := by kernel_rfl
    clear hr HC HK
    go_enter Try.func30, Try.ntmps30
    go_wp2
    go_loopw [3] (fun x wr => ∃ q : Nat, q + 1 ≤ d.size ∧ x = .int .i64 ((q + 1 : Nat) : Int) ∧ Hid (∀ j, j < q + 1 → kp j = true) ∧ Hid (RowC wr g d) ∧ Hid (Only g w wr)) (fun x _ => d.size - (intOf x).toNat)
    case atStart => exact ⟨0, by omega, rfl, Lib.hid (fun j hj => by rw [show j = 0 by omega]; exact K00.out), HR, Lib.hid (Only.refl _ _)⟩
    case round =>
      clear HR
      obtain ⟨q, hq, rfl, HA, HR1, HO⟩ := hrel
      have hgs : g < wr.heap.size := Nat.lt_of_lt_of_le hg HO.out.size
      by_cases hlt : q + 1 < d.size
      · have hD1 : IntKind.i64.wrap (((q + 1 : Nat) : Int) - 1) = (q : Int) := by rw [IntKind.wrap_i64]; omega
        have hD2 : ((q + 1 : Nat) : Int) - 1 = (q : Int) := by omega
        have hD3 : IntKind.i64.wrap (q : Int) = (q : Int) := by rw [IntKind.wrap_i64]; omega
        have HN := Lib.hid (KN.out (q + 1) (by omega))
        rw [Nat.add_sub_cancel] at HN
        have L1 := fun n os => (HR1.out.below (Gr.below ⟨n, os, rfl⟩ : Below wr.heap.size wr (grow (wr.drewN n) os)) hgs).cell (q + 1) hlt
        have L2 := fun n os => (HR1.out.below (Gr.below ⟨n, os, rfl⟩ : Below wr.heap.size wr (grow (wr.drewN n) os)) hgs).cell q (by omega)
        have HA2 : Hid (kp (q + 1) = true → ∀ j, j < q + 1 + 1 → kp j = true) := Lib.hid fun h j hj => by
          by_cases e : j < q + 1
          · exact HA.out j e
          · rw [show j = q + 1 by omega]; exact h
        have hk0 : q < q + 1 := by omega
        have iq : (q : Int) < (d.size : Int) := by omega
        have ik : ((q + 1 : Nat) : Int) < (d.size : Int) := by omega
        have ST := Lib.hid (fun h => KeptInv.start (kp := kp) (d := d) (k0 := q + 1) HA.out h)
        generalize q + 1 = k1 at *
        generalize hx : d[k1]! = x at L1 HN
        generalize hy : d[q]! = y at L2 HN
        obtain ⟨f1, n1, v1, b1⟩ := x
        obtain ⟨f2, n2, v2, b2⟩ := y
        have a0 := fun n os => (L1 n os).1
        have a1 := fun n os => (L1 n os).2.1
        have a2 := fun n os => (L1 n os).2.2.1
        have a3 := fun n os => (L1 n os).2.2.2
        have e0 := fun n os => (L2 n os).1
        have e1 := fun n os => (L2 n os).2.1
        have e2 := fun n os => (L2 n os).2.2.1
        have e3 := fun n os => (L2 n os).2.2.2
        simp only at a0 a1 a2 a3 e0 e1 e2 e3
        clear L1 L2 hx hy HA
        obtain ⟨B, hB⟩ : ∃ B, eqC ⟨f1, n1, v1, b1⟩ ⟨f2, n2, v2, b2⟩ = B := ⟨_, rfl⟩
        have HE := fun W => eql_chg ⟨f1, n1, v1, b1⟩ ⟨f2, n2, v2, b2⟩ W
        have HF := fun W => neq_chg ⟨f1, n1, v1, b1⟩ ⟨f2, n2, v2, b2⟩ W
        have HG := fun op a b W => run_eqGuard_agg (P := Try.prog) W op 42 a b #[.int .i64 f1, .int .i64 n1, .int .i64 v1, .bool b1] #[.int .i64 f2, .int .i64 n2, .int .i64 v2, .bool b2] grd_chg
        rw [hB] at HN
        simp only [hB] at HE HF
        clear hB
        go_wp2_with fail
        go_quiet_grown (fail)
        clear HE HF HG
        clear a0 a1 a2 a3 e0 e1 e2 e3 hD1 hD2 hD3
        have R2 := Lib.hid (HR1.out.below (Gr.below ⟨nq, osq, rfl⟩ : Below wr.heap.size wr (grow (wr.drewN nq) osq)) hgs)
        have O2 := Lib.hid (Only.gr HO.out (⟨nq, osq, rfl⟩ : Gr wr (grow (wr.drewN nq) osq)))
        generalize grow (wr.drewN nq) osq = wx at *
        clear HR1 HO hgs nq osq
        cases B with
        | false =>
          go_wp2_with fail
          go_roundw
          case rel => exact ⟨k1, by omega, by go_num, Lib.hid (HA2.out HN.out), R2, O2⟩
          case measure => simp [intOf]; omega
        | true =>
          have HI0 := Lib.hid (ST.out HN.out)
          have g1 : (k1 : Int) ≤ (d.size : Int) := by omega
          have g2 : (k1 : Int) ≤ (cap : Int) := by omega
          clear ST HN HA2
          go_wp2_with fail
          go_loopg [3, 5] d.size (fun gg s5 s7 wr => ∃ (i j : Nat) (dk : Array Chg), s5 = .int .i64 i ∧ s7 = .int .i64 ((j + 1 : Nat) : Int) ∧ k1 + (j + 1) ≤ d.size ∧ d.size - j ≤ gg ∧ i < k1 + (j + 1) ∧ dk.size = d.size ∧ Hid (KeptInv kp d (k1 + (j + 1)) i dk) ∧ Hid (RowC wr g dk) ∧ Hid (Only g w wr))
          case atStart => exact ⟨k1, 0, d, rfl, rfl, by omega, by omega, by omega, rfl, HI0, R2, O2⟩
          case round =>
            clear HI0 R2 O2
            obtain ⟨i, j, dk, rfl, rfl, hjd, hgg, hij, hds, HI, HR1, HO⟩ := hrel
            have hgs : g < wr.heap.size := Nat.lt_of_lt_of_le hg HO.out.size
            by_cases hlt : k1 + (j + 1) < d.size
            · have t1 : decide (((j + 1 : Nat) : Int) < ((d.size - k1 : Nat) : Int)) = true := decide_eq_true (by omega)
              have hD1 : IntKind.i64.wrap (((j + 1 : Nat) : Int) - 1) = (j : Int) := by rw [IntKind.wrap_i64]; omega
              have hD2 : ((j + 1 : Nat) : Int) - 1 = (j : Int) := by omega
              have hD3 : IntKind.i64.wrap (j : Int) = (j : Int) := by rw [IntKind.wrap_i64]; omega
              have i1 : ((j + 1 : Nat) : Int) < ((d.size - k1 : Nat) : Int) := by omega
              have i2 : (j : Int) < ((d.size - k1 : Nat) : Int) := by omega
              have HN := Lib.hid (KN.out (k1 + (j + 1)) (by omega))
              rw [show k1 + (j + 1) - 1 = k1 + j by omega] at HN
              have L1 := fun n os => (HR1.out.below (Gr.below ⟨n, os, rfl⟩ : Below wr.heap.size wr (grow (wr.drewN n) os)) hgs).cell (k1 + (j + 1)) (by omega)
              have L2 := fun n os => (HR1.out.below (Gr.below ⟨n, os, rfl⟩ : Below wr.heap.size wr (grow (wr.drewN n) os)) hgs).cell (k1 + j) (by omega)
              rw [HI.out.high (k1 + (j + 1)) (by omega), Nat.add_mul] at L1
              rw [HI.out.high (k1 + j) (by omega), Nat.add_mul] at L2
              have KEEP := Lib.hid (fun h => HI.out.keep hlt h)
              have SKIP := Lib.hid (fun h => HI.out.skip (m := k1 + (j + 1)) h)
              have hj0 : j < j + 1 := by omega
              rw [show k1 + (j + 1) + 1 = k1 + (j + 1 + 1) by omega] at KEEP SKIP
              generalize j + 1 = j1 at *
              generalize hx : d[k1 + j1]! = x at L1 HN KEEP
              generalize hy : d[k1 + j]! = y at L2 HN
              obtain ⟨f1, n1, v1, b1⟩ := x
              obtain ⟨f2, n2, v2, b2⟩ := y
              have a0 := fun n os => (L1 n os).1
              have a1 := fun n os => (L1 n os).2.1
              have a2 := fun n os => (L1 n os).2.2.1
              have a3 := fun n os => (L1 n os).2.2.2
              have e0 := fun n os => (L2 n os).1
              have e1 := fun n os => (L2 n os).2.1
              have e2 := fun n os => (L2 n os).2.2.1
              have e3 := fun n os => (L2 n os).2.2.2
              simp only at a0 a1 a2 a3 e0 e1 e2 e3
              clear L1 L2 hx hy HI
              obtain ⟨B, hB⟩ : ∃ B, eqC ⟨f1, n1, v1, b1⟩ ⟨f2, n2, v2, b2⟩ = B := ⟨_, rfl⟩
              have HE := fun W => eql_chg ⟨f1, n1, v1, b1⟩ ⟨f2, n2, v2, b2⟩ W
              have HF := fun W => neq_chg ⟨f1, n1, v1, b1⟩ ⟨f2, n2, v2, b2⟩ W
              have HG := fun op a b W => run_eqGuard_agg (P := Try.prog) W op 42 a b #[.int .i64 f1, .int .i64 n1, .int .i64 v1, .bool b1] #[.int .i64 f2, .int .i64 n2, .int .i64 v2, .bool b2] grd_chg
              rw [hB] at HN
              simp only [hB] at HE HF
              clear hB
              go_wp2_with fail
              go_quiet_grown (fail)
              clear HE HF HG
              have z0 := a0 nq osq
              have z1 := a1 nq osq
              have z2 := a2 nq osq
              have z3 := a3 nq osq
              clear a0 a1 a2 a3 e0 e1 e2 e3 hD1 hD2 hD3
              have R2 := Lib.hid (HR1.out.below (Gr.below ⟨nq, osq, rfl⟩ : Below wr.heap.size wr (grow (wr.drewN nq) osq)) hgs)
              have O2 := Lib.hid (Only.gr HO.out (⟨nq, osq, rfl⟩ : Gr wr (grow (wr.drewN nq) osq)))
              generalize grow (wr.drewN nq) osq = wx at *
              clear HR1 HO hgs nq osq
              cases B with
              | true =>
                go_wp2_with fail
                go_roundg (d.size - j1)
                case measure => omega
                case rel => exact ⟨i, j1, dk, rfl, by go_num, by omega, Nat.le_refl _, by omega, hds, Lib.hid (SKIP.out HN.out), R2, O2⟩
              | false =>
                obtain ⟨p0, p1, p2, p3⟩ := R2.out.cell i (by omega)
                have r0 := R2.out.free (i * 4) (by omega)
                have r1 := R2.out.free (i * 4 + 1) (by omega)
                have r2 := R2.out.free (i * 4 + 2) (by omega)
                have r3 := R2.out.free (i * 4 + 3) (by omega)
                have hi1 : (i : Int) < (d.size : Int) := by omega
                go_wp2_with fail
                go_roundg (d.size - j1)
                case measure => omega
                case rel =>
                  refine ⟨i + 1, j1, dk.setIfInBounds i ⟨f1, n1, v1, b1⟩, by go_num, by go_num, by omega, Nat.le_refl _, by omega, by simpa using hds, Lib.hid (KEEP.out HN.out), Lib.hid (R2.out.set (by omega) ⟨f1, n1, v1, b1⟩), Lib.hid ?_⟩
                  exact Only.setCell (Only.setCell (Only.setCell (Only.setCell O2.out (.inl rfl) _) (.inl rfl) _) (.inl rfl) _) (.inl rfl) _
            · have hjz : k1 + (j + 1) = d.size := by omega
              have t1 : decide (((j + 1 : Nat) : Int) < ((d.size - k1 : Nat) : Int)) = false := decide_eq_false (by omega)
              rw [hjz] at HI
              obtain ⟨VS, HCL⟩ := clear_run g i (d.size - i) (cap - i) wr (by omega) (fun t ht => by
                obtain ⟨a0, a1, a2, a3⟩ := HR1.out.cell (i + t / 4) (by omega)
                have e : t = t / 4 * 4 + t % 4 := by omega
                have hm : t % 4 < 4 := by omega
                generalize t % 4 = r at *
                generalize t / 4 = q at *
                subst e
                rw [show i * 4 + (q * 4 + r) = (i + q) * 4 + r by omega]
                rcases r with _ | _ | _ | _ | r
                · rw [Nat.add_zero, a0]; rfl
                · rw [show World.cell? wr ⟨g, (i + q) * 4 + 1, none⟩ = _ from a1]; rfl
                · rw [show World.cell? wr ⟨g, (i + q) * 4 + 2, none⟩ = _ from a2]; rfl
                · rw [show World.cell? wr ⟨g, (i + q) * 4 + 3, none⟩ = _ from a3]; rfl
                · omega) (fun t ht => HR1.out.free _ (by omega))
              have hi2 : (i : Int) ≤ (d.size : Int) := by omega
              have hi3 : (i : Int) ≤ (cap : Int) := by omega
              go_wp2
              go_ret
              refine ⟨retSl HI.out.len.symm, kept_row HI.out HR1.out VS, only_setCells _ _ _ HO.out⟩
      · have hqz : q + 1 = d.size := by omega
        rw [hqz] at HA
        have e3 : keptUpTo kp d d.size = d.toList := by
          rw [keptUpTo_all kp d _ HA.out]
          exact range_map_get d
        have t1 : decide (((q + 1 : Nat) : Int) < (d.size : Int)) = false := decide_eq_false (by omega)
        have E3 := Lib.hid e3
        clear e3
        go_wp2
        go_ret
        refine ⟨retSl (by rw [E3.out]; simp), ?_, HO.out⟩
        rw [E3.out]
        exact HR1.out
end Go.Proofs.Ytdpgmjmmnjbbiaa.Tl
