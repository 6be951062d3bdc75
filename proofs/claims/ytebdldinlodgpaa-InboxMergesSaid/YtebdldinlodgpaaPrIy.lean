/-
  Go's library at rows of Ky: slices.IndexFunc, DeleteFunc, CompactFunc, Compact. Conditions: the row lies in a block of the call's own; what the function values answer.
-/
import Derived.Test.YtebdldinlodgpaaPrIx
import Derived.Test.YtebdldinlodgpaaPrIm
import Derived.Lib.SlKept
import Derived.Deep.LoopGhost
import Derived.Lib.SliceRun
namespace Go.Proofs.Ytebdldinlodgpaa.SK
open Go Go.RowKit Go.Lib Go.Sort Go.Shelf Go.Proofs Go.Proofs.Ytebdldinlodgpaa Go.Proofs.Ytebdldinlodgpaa.Tp Go.Proofs.Ytebdldinlodgpaa.Gm Go.Proofs.Ytebdldinlodgpaa.Rc
set_option linter.unusedVariables false
theorem only_putRowK (w : World) (g n : Nat) (d : Array Ky) : Only g w (putRowK encC 2 (Go.Sort.ahead w n) g 0 d) := by
  refine ⟨rfl, rfl, rfl, ?_, fun k hk hne => ?_⟩
  · rw [size_putRowK]; exact Nat.le_refl _
  · simp [putRowK, putRow, mapBlock, Go.Sort.ahead, Array.getElem?_modify, Ne.symm hne]
theorem Only.gr {g : Nat} {u v w : World} (h : Only g u v) (k : Gr v w) : Only g u w := h.trans (Only.of_below k.below)
theorem only_grow (w : World) (g : Nat) (os : Array Obj) : Only g w (grow w os) := Only.of_below (Gr.below ((Gr.refl w).grow os))
theorem only_sortWorldK (w : World) (g n : Nat) (d : Array Ky) (os : Array Obj) : Only g w (sortWorldK encC 2 w g 0 n d os) := by
  unfold sortWorldK
  exact (only_putRowK w g n d).trans (only_grow _ g os)

def SortR (g : Nat) (l : List Ky) (w : World) (e : Ending) (w' : World) : Prop := e = .returned (.tuple #[]) ∧ RowC w' g l.toArray ∧ Only g w w'
/-! ## A predicate, and a comparison of two elements, as function values -/
/-- A closure that tells whether an element is meant, wherever the row's block alone has changed. -/
def PredC (f : Nat) (lb : Array Value) (p : Ky → Bool) (g : Nat) (w : World) : Prop :=
  (∀ args w, (callFunc f args).run Try.prog w = .ok (.enter f args) w) ∧ ∀ (c : Ky) (W : World), Only g w W → Calls Try.prog f (#[vC c] ++ lb) W fun e w' => e = .returned (.bool (p c)) ∧ Gr W w'
theorem PredC.step {f g : Nat} {lb : Array Value} {p : Ky → Bool} {w W : World} (h : PredC f lb p g w) (ho : Only g w W) : PredC f lb p g W := ⟨h.1, fun c V hV => h.2 c V (ho.trans hV)⟩

theorem only_setCells {g : Nat} {u : World} : ∀ (vs : List Value) (o : Nat) (w : World), Only g u w → Only g u (w.setCells g o vs)
  | [], _, _, h => h
  | v :: r, o, w, h => by rw [World.setCells]; exact only_setCells r (o + 1) _ (h.setCell (.inl rfl) v)
theorem cell_setCells {g : Nat} : ∀ (vs : List Value) (o : Nat) (w : World) (j : Nat), j < o → (w.setCells g o vs).cell? ⟨g, j, none⟩ = w.cell? ⟨g, j, none⟩
  | [], _, _, _, _ => rfl
  | v :: r, o, w, j, h => by
    rw [World.setCells, cell_setCells r (o + 1) _ j (by omega)]
    exact World.cell?_setCell_other _ _ _ _ (fun e => by simp only [Addr.mk.injEq] at e; omega)
theorem frozen_setCells {g : Nat} : ∀ (vs : List Value) (o : Nat) (w : World) (p : Addr), (w.setCells g o vs).frozen? p = w.frozen? p
  | [], _, _, _ => rfl
  | v :: r, o, w, p => by rw [World.setCells, frozen_setCells r (o + 1) _ p, World.frozen?_setCell]
theorem RowC.cleared {w : World} {g o : Nat} {d : Array Ky} (h : RowC w g d) (ho : d.size * 2 ≤ o) (vs : List Value) : RowC (w.setCells g o vs) g d :=
  ⟨fun i hi => by
    obtain ⟨a0, a1⟩ := h.cell i hi
    exact ⟨(cell_setCells vs o w _ (by omega)).trans a0, (cell_setCells vs o w (i * 2 + 1) (by omega)).trans a1⟩,
   fun j hj => (frozen_setCells vs o w _).trans (h.free j hj)⟩
theorem clear_run (g i m c : Nat) (w : World) (hm : 0 < m) (hc : ∀ j, j < m * 2 → (w.cell? ⟨g, i * 2 + j, none⟩).isSome = true) (hf : ∀ j, j < m * 2 → w.frozen? ⟨g, i * 2 + j, none⟩ = false) :
    ∃ vs, ∀ ty, (Builtin.clear_ #[87] ty #[.slice (some ⟨g, i * 2, none⟩) m c]).run Try.prog w = .ok (.tuple #[]) (w.setCells g (i * 2) vs) := by
  refine ⟨(Builtin.zeroCells #[.int .i64 0, .int .i64 0] m).toList, fun ty => ?_⟩
  have hl : (Builtin.zeroCells #[.int .i64 0, .int .i64 0] m).toList.length = m * 2 := by simp [Builtin.zeroCells]
  have hst := run_storeCells_cells (P := Try.prog) g (i * 2) (Builtin.zeroCells #[.int .i64 0, .int .i64 0] m).toList 0 w (by rw [hl]; simpa using hc) (by rw [hl]; simpa using hf) (by
    intro v hv
    obtain ⟨j, hj, rfl⟩ := List.mem_iff_getElem.1 hv
    simp only [Builtin.zeroCells, Array.getElem_toList, Array.getElem_map, Array.getElem_range]
    have h4 : j % (#[.int .i64 0, .int .i64 0] : Array Value).size < 2 := Nat.mod_lt _ (by decide)
    generalize j % (#[.int .i64 0, .int .i64 0] : Array Value).size = r at h4
    rcases r with _ | _ | r
    · rfl
    · rfl
    · omega)
  simp only [Nat.add_zero] at hst
  obtain ⟨k, rfl⟩ : ∃ k, m = k + 1 := ⟨m - 1, by omega⟩
  simp [Builtin.clear_, run_underlying Try.underlying87, Try.zeroValue24, Value.cells, hst]

theorem retSl {a : Option Addr} {n m c : Nat} (h : n = m) : Ending.returned (.slice a n c) = .returned (.slice a m c) := by rw [h]
def DelR (g cap : Nat) (l : List Ky) (w : World) (e : Ending) (w' : World) : Prop := e = .returned (.slice (some ⟨g, 0, none⟩) l.length cap) ∧ RowC w' g l.toArray ∧ Only g w w'
/-- What is kept lies at the row's head. -/
theorem kept_row {kp : Nat → Bool} {d dk : Array Ky} {k : Nat} (h : KeptInv kp d d.size k dk) {w : World} {g : Nat} (hr : RowC w g dk) (vs : List Value) : RowC (w.setCells g (k * 2) vs) g (keptUpTo kp d d.size).toArray := by
  have hl := h.len
  have hk := h.lt
  have hs := h.size
  refine RowC.cleared (hr.take (by simp; omega) fun i hi => ?_) (by simp [hl]) vs
  have hi' : i < k := by simpa [hl] using hi
  have lo := h.low i hi'
  rw [getElem!_pos (keptUpTo kp d d.size).toArray i hi]
  have := List.getElem?_eq_some_iff.1 lo
  obtain ⟨q, e⟩ := this
  simpa using e.symm

/-- A closure that compares two elements. -/
def EqC (f : Nat) (eq : Ky → Ky → Bool) (g : Nat) (w : World) : Prop :=
  (∀ args w, (callFunc f args).run Try.prog w = .ok (.enter f args) w) ∧ ∀ (a b : Ky) (W : World), Only g w W → Calls Try.prog f #[vC a, vC b] W fun e w' => e = .returned (.bool (eq a b)) ∧ ∃ q os, w' = grow (W.drewN q) os
theorem EqC.step {f g : Nat} {eq : Ky → Ky → Bool} {w W : World} (h : EqC f eq g w) (ho : Only g w W) : EqC f eq g W := ⟨h.1, fun a b V hV => h.2 a b V (ho.trans hV)⟩

def eqC (a b : Ky) : Bool := decide (a = b)
theorem eqC_of (x y : Ky) : Ib.eqK2 x.kt x.ks y.kt y.ks = eqC x y := by
  obtain ⟨a, b⟩ := x
  obtain ⟨c, d⟩ := y
  unfold eqC Ib.eqK2
  by_cases h1 : a = c <;> by_cases h2 : b = d <;> simp [h1, h2]
theorem eql_chg (x y : Ky) (w : World) : (binOp .eql 24 (.agg #[.int .i64 x.kt, .int .i64 x.ks]) (.agg #[.int .i64 y.kt, .int .i64 y.ks])).run Try.prog w = .ok (.bool (eqC x y)) w := by
  rw [← eqC_of]; exact Ib.eql_key x.kt x.ks y.kt y.ks w
theorem neq_chg (x y : Ky) (w : World) : (binOp .neq 24 (.agg #[.int .i64 x.kt, .int .i64 x.ks]) (.agg #[.int .i64 y.kt, .int .i64 y.ks])).run Try.prog w = .ok (.bool (!eqC x y)) w := by
  rw [← eqC_of]; exact Ib.neq_key x.kt x.ks y.kt y.ks w
theorem grd_chg : Try.prog.eqGuardType Try.prog.depth 24 = false := by kernel_rfl
theorem only_gd (w : World) (g n : Nat) (os : Array Obj) : Only g w (grow (w.drewN n) os) := Only.of_below (Gr.below ⟨n, os, rfl⟩)

set_option maxRecDepth 100000 in
set_option maxHeartbeats 8000000 in
theorem cps_own (g cap : Nat) (d : Array Ky) (w : World) (hr : RowC w g d) (hg : g < w.heap.size) (hsz : d.size ≤ 1000000) (hcap : d.size ≤ cap) :
    Calls Try.prog 79 #[.slice (some ⟨g, 0, none⟩) d.size cap] w (DelR g cap (comp eqC d.toList) w) := by
  have HR := Lib.hid hr
  by_cases h2 : d.size < 2
  · rw [comp_small eqC d h2]
    clear hr
    go_enter Try.func79, Try.ntmps79
    go_wp2
    go_ret
    exact ⟨retSl (by simp), by simpa using HR.out, Only.refl _ _⟩
  · obtain ⟨kp, HK⟩ : ∃ kp : Nat → Bool, Hid (kp = kpE eqC d) := ⟨_, rfl⟩
    have HC := Lib.hid (comp_kept eqC d)
    rw [← HK.out] at HC
    rw [← HC.out]
    have KN : Hid (∀ j, 0 < j → kp j = !eqC d[j]! d[j - 1]!) := Lib.hid fun j hj => by rw [HK.out]; unfold kpE; simp [show j ≠ 0 by omega]
    have K00 : Hid (kp 0 = true) := Lib.hid (by rw [HK.out]; rfl)
    have mixed : Try.prog.follows Departure.mixedOrders = true := by kernel_rfl
    clear hr HC HK
    go_enter Try.func79, Try.ntmps79
    go_wp2
    go_loopw [3] (fun x wr => ∃ q : Nat, q + 1 ≤ d.size ∧ x = .int .i64 ((q + 1 : Nat) : Int) ∧ Hid (∀ j, j < q + 1 → kp j = true) ∧ Hid (RowC wr g d) ∧ Hid (Only g w wr)) (fun x _ => d.size - (intOf x).toNat)
    case atStart => exact ⟨0, by omega, rfl, Lib.hid (fun j hj => by rw [show j = 0 by omega]; exact K00.out), HR, Lib.hid (Only.refl _ _)⟩
    case round =>
      clear HR
      obtain ⟨q, hq, rfl, HA, HR1, HO⟩ := hrel
      have hgs : g < wr.heap.size := Nat.lt_of_lt_of_le hg HO.out.size
      by_cases hlt : q + 1 < d.size
      · have hD1 : IntKind.i64.wrap (((q + 1 : Nat) : Int) - 1) = (q : Int) := by rw [IntKind.wrap_i64]; omega
        have hD2 : ((q + 1 : Nat) : Int) - 1 = (q : Int) := by omega
        have hD3 : IntKind.i64.wrap (q : Int) = (q : Int) := by rw [IntKind.wrap_i64]; omega
        have HN := Lib.hid (KN.out (q + 1) (by omega))
        rw [Nat.add_sub_cancel] at HN
        have L1 := fun n os => (HR1.out.below (Gr.below ⟨n, os, rfl⟩ : Below wr.heap.size wr (grow (wr.drewN n) os)) hgs).cell (q + 1) hlt
        have L2 := fun n os => (HR1.out.below (Gr.below ⟨n, os, rfl⟩ : Below wr.heap.size wr (grow (wr.drewN n) os)) hgs).cell q (by omega)
        have HA2 : Hid (kp (q + 1) = true → ∀ j, j < q + 1 + 1 → kp j = true) := Lib.hid fun h j hj => by
          by_cases e : j < q + 1
          · exact HA.out j e
          · rw [show j = q + 1 by omega]; exact h
        have hk0 : q < q + 1 := by omega
        have iq : (q : Int) < (d.size : Int) := by omega
        have ik : ((q + 1 : Nat) : Int) < (d.size : Int) := by omega
        have ST := Lib.hid (fun h => KeptInv.start (kp := kp) (d := d) (k0 := q + 1) HA.out h)
        generalize q + 1 = k1 at *
        generalize hx : d[k1]! = x at L1 HN
        generalize hy : d[q]! = y at L2 HN
        obtain ⟨s1_0, s1_1⟩ := x
        obtain ⟨s2_0, s2_1⟩ := y
        have a0 := fun n os => (L1 n os).1
        have a1 := fun n os => (L1 n os).2
        have e0 := fun n os => (L2 n os).1
        have e1 := fun n os => (L2 n os).2
        simp only at a0 a1 e0 e1
        clear L1 L2 hx hy HA
        obtain ⟨B, hB⟩ : ∃ B, eqC ⟨s1_0, s1_1⟩ ⟨s2_0, s2_1⟩ = B := ⟨_, rfl⟩
        have HE := fun W => eql_chg ⟨s1_0, s1_1⟩ ⟨s2_0, s2_1⟩ W
        have HF := fun W => neq_chg ⟨s1_0, s1_1⟩ ⟨s2_0, s2_1⟩ W
        have HG := fun op a b W => run_eqGuard_agg (P := Try.prog) W op 24 a b #[.int .i64 s1_0, .int .i64 s1_1] #[.int .i64 s2_0, .int .i64 s2_1] grd_chg
        rw [hB] at HN
        simp only [hB] at HE HF
        clear hB
        go_wp2_with fail
        go_quiet_grown (fail)
        clear HE HF HG
        clear a0 a1 e0 e1 hD1 hD2 hD3
        have R2 := Lib.hid (HR1.out.below (Gr.below ⟨nq, osq, rfl⟩ : Below wr.heap.size wr (grow (wr.drewN nq) osq)) hgs)
        have O2 := Lib.hid (Only.gr HO.out (⟨nq, osq, rfl⟩ : Gr wr (grow (wr.drewN nq) osq)))
        generalize grow (wr.drewN nq) osq = wx at *
        clear HR1 HO hgs nq osq
        cases B with
        | false =>
          go_wp2_with fail
          go_roundw
          case rel => exact ⟨k1, by omega, by go_num, Lib.hid (HA2.out HN.out), R2, O2⟩
          case measure => simp [intOf]; omega
        | true =>
          have HI0 := Lib.hid (ST.out HN.out)
          have g1 : (k1 : Int) ≤ (d.size : Int) := by omega
          have g2 : (k1 : Int) ≤ (cap : Int) := by omega
          clear ST HN HA2
          go_wp2_with fail
          go_loopg [3, 5] d.size (fun gg s5 s7 wr => ∃ (i j : Nat) (dk : Array Ky), s5 = .int .i64 i ∧ s7 = .int .i64 ((j + 1 : Nat) : Int) ∧ k1 + (j + 1) ≤ d.size ∧ d.size - j ≤ gg ∧ i < k1 + (j + 1) ∧ dk.size = d.size ∧ Hid (KeptInv kp d (k1 + (j + 1)) i dk) ∧ Hid (RowC wr g dk) ∧ Hid (Only g w wr))
          case atStart => exact ⟨k1, 0, d, rfl, rfl, by omega, by omega, by omega, rfl, HI0, R2, O2⟩
          case round =>
            clear HI0 R2 O2
            obtain ⟨i, j, dk, rfl, rfl, hjd, hgg, hij, hds, HI, HR1, HO⟩ := hrel
            have hgs : g < wr.heap.size := Nat.lt_of_lt_of_le hg HO.out.size
            by_cases hlt : k1 + (j + 1) < d.size
            · have t1 : decide (((j + 1 : Nat) : Int) < ((d.size - k1 : Nat) : Int)) = true := decide_eq_true (by omega)
              have hD1 : IntKind.i64.wrap (((j + 1 : Nat) : Int) - 1) = (j : Int) := by rw [IntKind.wrap_i64]; omega
              have hD2 : ((j + 1 : Nat) : Int) - 1 = (j : Int) := by omega
              have hD3 : IntKind.i64.wrap (j : Int) = (j : Int) := by rw [IntKind.wrap_i64]; omega
              have i1 : ((j + 1 : Nat) : Int) < ((d.size - k1 : Nat) : Int) := by omega
              have i2 : (j : Int) < ((d.size - k1 : Nat) : Int) := by omega
              have HN := Lib.hid (KN.out (k1 + (j + 1)) (by omega))
              rw [show k1 + (j + 1) - 1 = k1 + j by omega] at HN
              have L1 := fun n os => (HR1.out.below (Gr.below ⟨n, os, rfl⟩ : Below wr.heap.size wr (grow (wr.drewN n) os)) hgs).cell (k1 + (j + 1)) (by omega)
              have L2 := fun n os => (HR1.out.below (Gr.below ⟨n, os, rfl⟩ : Below wr.heap.size wr (grow (wr.drewN n) os)) hgs).cell (k1 + j) (by omega)
              rw [HI.out.high (k1 + (j + 1)) (by omega), Nat.add_mul] at L1
              rw [HI.out.high (k1 + j) (by omega), Nat.add_mul] at L2
              have KEEP := Lib.hid (fun h => HI.out.keep hlt h)
              have SKIP := Lib.hid (fun h => HI.out.skip (m := k1 + (j + 1)) h)
              have hj0 : j < j + 1 := by omega
              rw [show k1 + (j + 1) + 1 = k1 + (j + 1 + 1) by omega] at KEEP SKIP
              generalize j + 1 = j1 at *
              generalize hx : d[k1 + j1]! = x at L1 HN KEEP
              generalize hy : d[k1 + j]! = y at L2 HN
              obtain ⟨s1_0, s1_1⟩ := x
              obtain ⟨s2_0, s2_1⟩ := y
              have a0 := fun n os => (L1 n os).1
              have a1 := fun n os => (L1 n os).2
              have e0 := fun n os => (L2 n os).1
              have e1 := fun n os => (L2 n os).2
              simp only at a0 a1 e0 e1
              clear L1 L2 hx hy HI
              obtain ⟨B, hB⟩ : ∃ B, eqC ⟨s1_0, s1_1⟩ ⟨s2_0, s2_1⟩ = B := ⟨_, rfl⟩
              have HE := fun W => eql_chg ⟨s1_0, s1_1⟩ ⟨s2_0, s2_1⟩ W
              have HF := fun W => neq_chg ⟨s1_0, s1_1⟩ ⟨s2_0, s2_1⟩ W
              have HG := fun op a b W => run_eqGuard_agg (P := Try.prog) W op 24 a b #[.int .i64 s1_0, .int .i64 s1_1] #[.int .i64 s2_0, .int .i64 s2_1] grd_chg
              rw [hB] at HN
              simp only [hB] at HE HF
              clear hB
              go_wp2_with fail
              go_quiet_grown (fail)
              clear HE HF HG
              have z0 := a0 nq osq
              have z1 := a1 nq osq
              clear a0 a1 e0 e1 hD1 hD2 hD3
              have R2 := Lib.hid (HR1.out.below (Gr.below ⟨nq, osq, rfl⟩ : Below wr.heap.size wr (grow (wr.drewN nq) osq)) hgs)
              have O2 := Lib.hid (Only.gr HO.out (⟨nq, osq, rfl⟩ : Gr wr (grow (wr.drewN nq) osq)))
              generalize grow (wr.drewN nq) osq = wx at *
              clear HR1 HO hgs nq osq
              cases B with
              | true =>
                go_wp2_with fail
                go_roundg (d.size - j1)
                case measure => omega
                case rel => exact ⟨i, j1, dk, rfl, by go_num, by omega, Nat.le_refl _, by omega, hds, Lib.hid (SKIP.out HN.out), R2, O2⟩
              | false =>
                obtain ⟨p0, p1⟩ := R2.out.cell i (by omega)
                have r0 := R2.out.free (i * 2) (by omega)
                have r1 := R2.out.free (i * 2 + 1) (by omega)
                have hi1 : (i : Int) < (d.size : Int) := by omega
                go_wp2_with fail
                go_roundg (d.size - j1)
                case measure => omega
                case rel =>
                  refine ⟨i + 1, j1, dk.setIfInBounds i ⟨s1_0, s1_1⟩, by go_num, by go_num, by omega, Nat.le_refl _, by omega, by simpa using hds, Lib.hid (KEEP.out HN.out), Lib.hid (R2.out.set (by omega) ⟨s1_0, s1_1⟩), Lib.hid ?_⟩
                  exact Only.setCell (Only.setCell O2.out (.inl rfl) _) (.inl rfl) _
            · have hjz : k1 + (j + 1) = d.size := by omega
              have t1 : decide (((j + 1 : Nat) : Int) < ((d.size - k1 : Nat) : Int)) = false := decide_eq_false (by omega)
              rw [hjz] at HI
              obtain ⟨VS, HCL⟩ := clear_run g i (d.size - i) (cap - i) wr (by omega) (fun t ht => by
                obtain ⟨a0, a1⟩ := HR1.out.cell (i + t / 2) (by omega)
                have e : t = t / 2 * 2 + t % 2 := by omega
                have hm : t % 2 < 2 := by omega
                generalize t % 2 = r at *
                generalize t / 2 = q at *
                subst e
                rw [show i * 2 + (q * 2 + r) = (i + q) * 2 + r by omega]
                rcases r with _ | _ | r
                · rw [Nat.add_zero, a0]; rfl
                · rw [show World.cell? wr ⟨g, (i + q) * 2 + 1, none⟩ = _ from a1]; rfl
                · omega) (fun t ht => HR1.out.free _ (by omega))
              have hi2 : (i : Int) ≤ (d.size : Int) := by omega
              have hi3 : (i : Int) ≤ (cap : Int) := by omega
              go_wp2
              go_ret
              refine ⟨retSl HI.out.len.symm, kept_row HI.out HR1.out VS, only_setCells _ _ _ HO.out⟩
      · have hqz : q + 1 = d.size := by omega
        rw [hqz] at HA
        have e3 : keptUpTo kp d d.size = d.toList := by
          rw [keptUpTo_all kp d _ HA.out]
          exact range_map_get d
        have t1 : decide (((q + 1 : Nat) : Int) < (d.size : Int)) = false := decide_eq_false (by omega)
        have E3 := Lib.hid e3
        clear e3
        go_wp2
        go_ret
        refine ⟨retSl (by rw [E3.out]; simp), ?_, HO.out⟩
        rw [E3.out]
        exact HR1.out
set_option maxHeartbeats 1000000 in
theorem cps_none (w : World) : Calls Try.prog 79 #[.slice none 0 0] w fun e w' => e = .returned (.slice none 0 0) ∧ w' = w := by
  go_enter Try.func79, Try.ntmps79
  go_wp2
  go_ret
  exact ⟨rfl, rfl⟩
end Go.Proofs.Ytebdldinlodgpaa.SK
