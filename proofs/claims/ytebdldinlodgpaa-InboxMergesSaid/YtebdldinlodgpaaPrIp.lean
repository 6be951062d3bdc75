/-
  Go's library at rows of St: slices.IndexFunc, DeleteFunc, CompactFunc, Compact. Conditions: the row lies in a block of the call's own; what the function values answer.
-/
import Derived.Test.YtebdldinlodgpaaPrIo
import Derived.Lib.SlKept
import Derived.Deep.LoopGhost
import Derived.Lib.SliceRun
namespace Go.Proofs.Ytebdldinlodgpaa.SS
open Go Go.RowKit Go.Lib Go.Sort Go.Shelf Go.Proofs Go.Proofs.Ytebdldinlodgpaa Go.Proofs.Ytebdldinlodgpaa.Tp Go.Proofs.Ytebdldinlodgpaa.Gm Go.Proofs.Ytebdldinlodgpaa.Rc
set_option linter.unusedVariables false
theorem only_putRowK (w : World) (g n : Nat) (d : Array St) : Only g w (putRowK encC 4 (Go.Sort.ahead w n) g 0 d) := by
  refine ⟨rfl, rfl, rfl, ?_, fun k hk hne => ?_⟩
  · rw [size_putRowK]; exact Nat.le_refl _
  · simp [putRowK, putRow, mapBlock, Go.Sort.ahead, Array.getElem?_modify, Ne.symm hne]
theorem Only.gr {g : Nat} {u v w : World} (h : Only g u v) (k : Gr v w) : Only g u w := h.trans (Only.of_below k.below)
theorem only_grow (w : World) (g : Nat) (os : Array Obj) : Only g w (grow w os) := Only.of_below (Gr.below ((Gr.refl w).grow os))
theorem only_sortWorldK (w : World) (g n : Nat) (d : Array St) (os : Array Obj) : Only g w (sortWorldK encC 4 w g 0 n d os) := by
  unfold sortWorldK
  exact (only_putRowK w g n d).trans (only_grow _ g os)

def SortR (g : Nat) (l : List St) (w : World) (e : Ending) (w' : World) : Prop := e = .returned (.tuple #[]) ∧ RowC w' g l.toArray ∧ Only g w w'
/-! ## A predicate, and a comparison of two elements, as function values -/
/-- A closure that tells whether an element is meant, wherever the row's block alone has changed. -/
def PredC (Dm : St → Prop) (f : Nat) (lb : Array Value) (p : St → Bool) (g : Nat) (w : World) : Prop :=
  (∀ args w, (callFunc f args).run Try.prog w = .ok (.enter f args) w) ∧ ∀ (c : St) (W : World), Dm c → Only g w W → Calls Try.prog f (#[vC c] ++ lb) W fun e w' => e = .returned (.bool (p c)) ∧ Gr W w'
theorem PredC.step {Dm : St → Prop} {f g : Nat} {lb : Array Value} {p : St → Bool} {w W : World} (h : PredC Dm f lb p g w) (ho : Only g w W) : PredC Dm f lb p g W := ⟨h.1, fun c V hd hV => h.2 c V hd (ho.trans hV)⟩

def IdxR (p : St → Bool) (d : Array St) (w : World) (e : Ending) (w' : World) : Prop :=
  Gr w w' ∧ ((e = .returned (.int .i64 (-1)) ∧ ∀ j, j < d.size → p d[j]! = false) ∨ ∃ k, k < d.size ∧ e = .returned (.int .i64 (k : Nat)) ∧ p d[k]! = true ∧ ∀ j, j < k → p d[j]! = false)
set_option maxRecDepth 100000 in
set_option maxHeartbeats 2000000 in
theorem idx_any (f : Nat) (lb : Array Value) (p : St → Bool) (g cap : Nat) (d : Array St) (w : World) (hr : RowC w g d) (hg : g < w.heap.size) (hsz : d.size ≤ 1000000) (Dm : St → Prop) (hD : ∀ i, i < d.size → Dm d[i]!) (hp : PredC Dm f lb p g w) :
    Calls Try.prog 90 #[.slice (some ⟨g, 0, none⟩) d.size cap, .func (.func f) #[] lb] w (IdxR p d w) := by
  have HR := Lib.hid hr
  have eg := hp.1
  have HP := Lib.hid hp.2
  have HDm := Lib.hid hD
  clear hr hp hD
  go_enter Try.func90, Try.ntmps90
  go_wp2
  go_loopw [8] (fun x wr => ∃ k : Nat, k ≤ d.size ∧ x = .int .i64 k ∧ Hid (∀ j, j < k → p d[j]! = false) ∧ Hid (Gr w wr)) (fun x _ => d.size - (intOf x).toNat)
  case atStart => exact ⟨0, by omega, rfl, Lib.hid (fun j hj => by omega), Lib.hid (Gr.refl w)⟩
  case round =>
    obtain ⟨k, hk, rfl, HA, HG⟩ := hrel
    by_cases hlt : k < d.size
    · obtain ⟨c0, c1, c2, c3⟩ := (HR.out.below HG.out.below hg).cell k hlt
      have C := Lib.hid (HP.out d[k]! wr (HDm.out k hlt) (Only.of_below HG.out.below))
      have HB := Lib.hid (show p d[k]! = p d[k]! from rfl)
      have HL : Hid (∀ b, p d[k]! = b → ∀ j, j < k + 1 → (j < k → p d[j]! = false) → p d[j]! = false ∨ (j = k ∧ p d[j]! = b)) := Lib.hid fun b hb j hj h => by
        by_cases e : j < k
        · exact .inl (h e)
        · exact .inr ⟨by omega, by rw [show j = k by omega]; exact hb⟩
      have HD := Lib.hid (fun b => (show p d[k]! = b → p d[k]! = b from id))
      generalize hc : d[k]! = c at c0 c1 c2 c3 C
      unfold vC at C
      cases hb : p c with
      | true =>
        rw [hb] at C
        have HT := Lib.hid (show p d[k]! = true by rw [hc]; exact hb)
        clear hb hc HD HL HB
        go_wp2_with (go_at_fn f; refine C.out.mono ?_; rintro e w' ⟨rfl, hw'⟩)
        go_ret
        exact ⟨HG.out.trans hw', .inr ⟨k, hlt, rfl, HT.out, HA.out⟩⟩
      | false =>
        rw [hb] at C
        have HT := Lib.hid (show p d[k]! = false by rw [hc]; exact hb)
        clear hb hc HD HL HB
        go_wp2_with (go_at_fn f; refine C.out.mono ?_; rintro e w' ⟨rfl, hw'⟩)
        go_roundw
        case rel => exact ⟨k + 1, by omega, by go_num, Lib.hid (fun j hj => by
          by_cases e : j < k
          · exact HA.out j e
          · rw [show j = k by omega]; exact HT.out), Lib.hid (HG.out.trans hw')⟩
        case measure => simp [intOf]; omega
    · obtain rfl : k = d.size := by omega
      go_wp2
      go_ret
      exact ⟨HG.out, .inl ⟨rfl, HA.out⟩⟩
theorem only_setCells {g : Nat} {u : World} : ∀ (vs : List Value) (o : Nat) (w : World), Only g u w → Only g u (w.setCells g o vs)
  | [], _, _, h => h
  | v :: r, o, w, h => by rw [World.setCells]; exact only_setCells r (o + 1) _ (h.setCell (.inl rfl) v)
theorem cell_setCells {g : Nat} : ∀ (vs : List Value) (o : Nat) (w : World) (j : Nat), j < o → (w.setCells g o vs).cell? ⟨g, j, none⟩ = w.cell? ⟨g, j, none⟩
  | [], _, _, _, _ => rfl
  | v :: r, o, w, j, h => by
    rw [World.setCells, cell_setCells r (o + 1) _ j (by omega)]
    exact World.cell?_setCell_other _ _ _ _ (fun e => by simp only [Addr.mk.injEq] at e; omega)
theorem frozen_setCells {g : Nat} : ∀ (vs : List Value) (o : Nat) (w : World) (p : Addr), (w.setCells g o vs).frozen? p = w.frozen? p
  | [], _, _, _ => rfl
  | v :: r, o, w, p => by rw [World.setCells, frozen_setCells r (o + 1) _ p, World.frozen?_setCell]
theorem RowC.cleared {w : World} {g o : Nat} {d : Array St} (h : RowC w g d) (ho : d.size * 4 ≤ o) (vs : List Value) : RowC (w.setCells g o vs) g d :=
  ⟨fun i hi => by
    obtain ⟨a0, a1, a2, a3⟩ := h.cell i hi
    exact ⟨(cell_setCells vs o w _ (by omega)).trans a0, (cell_setCells vs o w (i * 4 + 1) (by omega)).trans a1, (cell_setCells vs o w (i * 4 + 2) (by omega)).trans a2, (cell_setCells vs o w (i * 4 + 3) (by omega)).trans a3⟩,
   fun j hj => (frozen_setCells vs o w _).trans (h.free j hj)⟩
theorem clear_run (g i m c : Nat) (w : World) (hm : 0 < m) (hc : ∀ j, j < m * 4 → (w.cell? ⟨g, i * 4 + j, none⟩).isSome = true) (hf : ∀ j, j < m * 4 → w.frozen? ⟨g, i * 4 + j, none⟩ = false) :
    ∃ vs, ∀ ty, (Builtin.clear_ #[64] ty #[.slice (some ⟨g, i * 4, none⟩) m c]).run Try.prog w = .ok (.tuple #[]) (w.setCells g (i * 4) vs) := by
  refine ⟨(Builtin.zeroCells #[.int .i64 0, .int .i64 0, .int .i64 0, .int .i64 0] m).toList, fun ty => ?_⟩
  have hl : (Builtin.zeroCells #[.int .i64 0, .int .i64 0, .int .i64 0, .int .i64 0] m).toList.length = m * 4 := by simp [Builtin.zeroCells]
  have hst := run_storeCells_cells (P := Try.prog) g (i * 4) (Builtin.zeroCells #[.int .i64 0, .int .i64 0, .int .i64 0, .int .i64 0] m).toList 0 w (by rw [hl]; simpa using hc) (by rw [hl]; simpa using hf) (by
    intro v hv
    obtain ⟨j, hj, rfl⟩ := List.mem_iff_getElem.1 hv
    simp only [Builtin.zeroCells, Array.getElem_toList, Array.getElem_map, Array.getElem_range]
    have h4 : j % (#[.int .i64 0, .int .i64 0, .int .i64 0, .int .i64 0] : Array Value).size < 4 := Nat.mod_lt _ (by decide)
    generalize j % (#[.int .i64 0, .int .i64 0, .int .i64 0, .int .i64 0] : Array Value).size = r at h4
    rcases r with _ | _ | _ | _ | r
    · rfl
    · rfl
    · rfl
    · rfl
    · omega)
  simp only [Nat.add_zero] at hst
  obtain ⟨k, rfl⟩ : ∃ k, m = k + 1 := ⟨m - 1, by omega⟩
  simp [Builtin.clear_, run_underlying Try.underlying64, Try.zeroValue70, Value.cells, hst]

theorem retSl {a : Option Addr} {n m c : Nat} (h : n = m) : Ending.returned (.slice a n c) = .returned (.slice a m c) := by rw [h]
def DelR (g cap : Nat) (l : List St) (w : World) (e : Ending) (w' : World) : Prop := e = .returned (.slice (some ⟨g, 0, none⟩) l.length cap) ∧ RowC w' g l.toArray ∧ Only g w w'
/-- What is kept lies at the row's head. -/
theorem kept_row {kp : Nat → Bool} {d dk : Array St} {k : Nat} (h : KeptInv kp d d.size k dk) {w : World} {g : Nat} (hr : RowC w g dk) (vs : List Value) : RowC (w.setCells g (k * 4) vs) g (keptUpTo kp d d.size).toArray := by
  have hl := h.len
  have hk := h.lt
  have hs := h.size
  refine RowC.cleared (hr.take (by simp; omega) fun i hi => ?_) (by simp [hl]) vs
  have hi' : i < k := by simpa [hl] using hi
  have lo := h.low i hi'
  rw [getElem!_pos (keptUpTo kp d d.size).toArray i hi]
  have := List.getElem?_eq_some_iff.1 lo
  obtain ⟨q, e⟩ := this
  simpa using e.symm

set_option maxRecDepth 100000 in
set_option maxHeartbeats 4000000 in
theorem del_own (f : Nat) (lb : Array Value) (p : St → Bool) (g cap : Nat) (d : Array St) (w : World) (hr : RowC w g d) (hg : g < w.heap.size) (hsz : d.size ≤ 1000000) (hcap : d.size ≤ cap) (Dm : St → Prop) (hD : ∀ i, i < d.size → Dm d[i]!) (hp : PredC Dm f lb p g w) :
    Calls Try.prog 68 #[.slice (some ⟨g, 0, none⟩) d.size cap, .func (.func f) #[] lb] w (DelR g cap (d.toList.filter fun c => !p c) w) := by
  have HR := Lib.hid hr
  have eg := hp.1
  have CI := Lib.hid (idx_any f lb p g cap d w hr hg hsz Dm hD hp)
  have HP := Lib.hid hp.2
  have HDm := Lib.hid hD
  obtain ⟨kp, HK⟩ : ∃ kp : Nat → Bool, Hid (kp = fun j => !p d[j]!) := ⟨_, rfl⟩
  have hfil : (d.toList.filter fun c => !p c) = keptUpTo kp d d.size := by rw [HK.out]; exact (keptUpTo_filter (fun c => !p c) d).symm
  rw [hfil]
  clear hr hp hD hfil
  go_enter Try.func68, Try.ntmps68
  go_wp2_with fail
  refine CI.out.mono ?_
  rintro e w1 ⟨hG, ⟨rfl, hall⟩ | ⟨k0, hk0, rfl, ht, hall⟩⟩
  · have HG := Lib.hid hG
    have HA := Lib.hid hall
    clear hG hall CI
    go_wp2_with fail
    go_ret
    have e3 : keptUpTo kp d d.size = d.toList := by
      rw [keptUpTo_all kp d _ fun j hj => by rw [HK.out]; show (!p d[j]!) = true; rw [HA.out j hj]; rfl]
      exact range_map_get d
    refine ⟨by rw [e3]; simp, ?_, Only.of_below HG.out.below⟩
    rw [e3]
    simpa using HR.out.below HG.out.below hg
  · have K0 : KeptInv kp d (k0 + 1) k0 d := KeptInv.start (fun j hj => by rw [HK.out]; show (!p d[j]!) = true; rw [hall j hj]; rfl) (by rw [HK.out]; show (!p d[k0]!) = false; rw [ht]; rfl)
    have HK0 := Lib.hid K0
    have HG := Lib.hid hG
    have hne1 : ((k0 : Int) == -1) = false := beq_eq_false_iff_ne.2 (by omega)
    have R1 := Lib.hid (HR.out.below hG.below hg)
    clear hG hall CI ht K0
    go_wp2_with fail
    go_loopg [5, 6] d.size (fun gg s5 s6 wr => ∃ (i j : Nat) (dk : Array St), s5 = .int .i64 i ∧ s6 = .int .i64 j ∧ j ≤ d.size ∧ d.size - j ≤ gg ∧ i < j ∧ dk.size = d.size ∧ Hid (KeptInv kp d j i dk) ∧ Hid (RowC wr g dk) ∧ Hid (Only g w wr))
    case atStart => exact ⟨k0, k0 + 1, d, rfl, by go_num, by omega, by omega, by omega, rfl, HK0, R1, Lib.hid (Only.of_below HG.out.below)⟩
    case round =>
      clear HK0 R1 HG
      obtain ⟨i, j, dk, rfl, rfl, hjd, hgg, hij, hds, HI, HR1, HO⟩ := hrel
      have hgs : g < wr.heap.size := Nat.lt_of_lt_of_le hg HO.out.size
      by_cases hlt : j < d.size
      · have hltz : decide ((j : Int) < (d.size : Int)) = true := decide_eq_true (by omega)
        obtain ⟨c0, c1, c2, c3⟩ := HR1.out.cell j (by omega)
        have hhi : dk[j]! = d[j]! := HI.out.high j (by omega)
        rw [hhi] at c0 c1 c2 c3
        have C := Lib.hid (fun W hW => HP.out d[j]! W (HDm.out j hlt) hW)
        have HKj := Lib.hid (show kp j = !p d[j]! by rw [HK.out])
        have KEEP := Lib.hid (fun h => HI.out.keep hlt h)
        have SKIP := Lib.hid (fun h => HI.out.skip (m := j) h)
        clear hhi
        generalize d[j]! = c at *
        unfold vC at C
        have B1 := Lib.hid ((Below.alloc (Below.refl wr.heap.size wr) (Nat.le_refl _) (.cells #[.int .i64 c.ti, .int .i64 c.ki, .int .i64 c.kt, .int .i64 c.ks] 70)))
        have MORE := Lib.hid (fun (w' : World) (hw' : Gr (wr.alloc (.cells #[.int .i64 c.ti, .int .i64 c.ki, .int .i64 c.kt, .int .i64 c.ks] 70)) w') => And.intro ((HR1.out.below B1.out hgs).below hw'.below (by simp; omega)) (Only.gr (Only.alloc HO.out _) hw'))
        cases hb : p c with
        | true =>
          rw [hb] at HKj
          go_wp2_with (go_at_fn f; refine (C.out _ (Only.alloc HO.out _)).mono ?_; rintro e w' ⟨rfl, hw'⟩)
          go_roundg (d.size - (j + 1))
          case measure => omega
          case rel =>
            obtain ⟨m1, m2⟩ := MORE.out _ hw'
            exact ⟨i, j + 1, dk, rfl, by go_num, by omega, Nat.le_refl _, by omega, hds, Lib.hid (SKIP.out HKj.out), Lib.hid m1, Lib.hid m2⟩
        | false =>
          rw [hb] at HKj
          go_wp2_with (go_at_fn f; refine (C.out _ (Only.alloc HO.out _)).mono ?_; rintro e w' ⟨rfl, hw'⟩; have M2 := Lib.hid (MORE.out _ hw'); obtain ⟨q0, q1, q2, q3⟩ := M2.out.1.cell i (by omega); have r0 := M2.out.1.free (i * 4) (by omega); have r1 := M2.out.1.free (i * 4 + 1) (by omega); have r2 := M2.out.1.free (i * 4 + 2) (by omega); have r3 := M2.out.1.free (i * 4 + 3) (by omega); have z0 : w'.cell? ⟨wr.heap.size, 0, none⟩ = some (.int .i64 c.ti) := (hw'.below.cell (by simp)).trans (by go_simp); have z1 : w'.cell? ⟨wr.heap.size, 1, none⟩ = some (.int .i64 c.ki) := (hw'.below.cell (by simp)).trans (by go_simp); have z2 : w'.cell? ⟨wr.heap.size, 2, none⟩ = some (.int .i64 c.kt) := (hw'.below.cell (by simp)).trans (by go_simp); have z3 : w'.cell? ⟨wr.heap.size, 3, none⟩ = some (.int .i64 c.ks) := (hw'.below.cell (by simp)).trans (by go_simp); clear hw')
          go_roundg (d.size - (j + 1))
          case measure => omega
          case rel =>
            refine ⟨i + 1, j + 1, dk.setIfInBounds i c, by go_num, by go_num, by omega, Nat.le_refl _, by omega, by simpa using hds, Lib.hid (KEEP.out HKj.out), Lib.hid (M2.out.1.set (by omega) c), Lib.hid ?_⟩
            exact Only.setCell (Only.setCell (Only.setCell (Only.setCell M2.out.2 (.inl rfl) _) (.inl rfl) _) (.inl rfl) _) (.inl rfl) _
      · obtain rfl : j = d.size := by omega
        have hltz : decide ((d.size : Int) < (d.size : Int)) = false := decide_eq_false (by omega)
        obtain ⟨VS, HCL⟩ := clear_run g i (d.size - i) (cap - i) wr (by omega) (fun t ht => by
          obtain ⟨a0, a1, a2, a3⟩ := HR1.out.cell (i + t / 4) (by omega)
          have e : t = t / 4 * 4 + t % 4 := by omega
          have hm : t % 4 < 4 := by omega
          generalize t % 4 = r at *
          generalize t / 4 = q at *
          subst e
          rw [show i * 4 + (q * 4 + r) = (i + q) * 4 + r by omega]
          rcases r with _ | _ | _ | _ | r
          · rw [Nat.add_zero, a0]; rfl
          · rw [show World.cell? wr ⟨g, (i + q) * 4 + 1, none⟩ = _ from a1]; rfl
          · rw [show World.cell? wr ⟨g, (i + q) * 4 + 2, none⟩ = _ from a2]; rfl
          · rw [show World.cell? wr ⟨g, (i + q) * 4 + 3, none⟩ = _ from a3]; rfl
          · omega) (fun t ht => HR1.out.free _ (by omega))
        have hi2 : (i : Int) ≤ (d.size : Int) := by omega
        have hi3 : (i : Int) ≤ (cap : Int) := by omega
        go_wp2
        go_ret
        refine ⟨retSl HI.out.len.symm, kept_row HI.out HR1.out VS, only_setCells _ _ _ HO.out⟩
/-- A closure that compares two elements. -/
def EqC (f : Nat) (eq : St → St → Bool) (g : Nat) (w : World) : Prop :=
  (∀ args w, (callFunc f args).run Try.prog w = .ok (.enter f args) w) ∧ ∀ (a b : St) (W : World), Only g w W → Calls Try.prog f #[vC a, vC b] W fun e w' => e = .returned (.bool (eq a b)) ∧ ∃ q os, w' = grow (W.drewN q) os
theorem EqC.step {f g : Nat} {eq : St → St → Bool} {w W : World} (h : EqC f eq g w) (ho : Only g w W) : EqC f eq g W := ⟨h.1, fun a b V hV => h.2 a b V (ho.trans hV)⟩
theorem only_gd (w : World) (g n : Nat) (os : Array Obj) : Only g w (grow (w.drewN n) os) := Only.of_below (Gr.below ⟨n, os, rfl⟩)

set_option maxHeartbeats 1000000 in
theorem idx_none (fv : Value) (w : World) : Calls Try.prog 90 #[.slice none 0 0, fv] w fun e w' => e = .returned (.int .i64 (-1)) ∧ w' = w := by
  go_enter Try.func90, Try.ntmps90
  go_wp2
  refine wp_loop_rounds 1 ?_
  rw [rounds_succ]
  go_wp2
  go_ret
  exact ⟨rfl, rfl⟩
set_option maxHeartbeats 1000000 in
theorem del_none (fv : Value) (w : World) : Calls Try.prog 68 #[.slice none 0 0, fv] w fun e w' => e = .returned (.slice none 0 0) ∧ w' = w := by
  go_enter Try.func68, Try.ntmps68
  go_wp2_with (go_at_call 90; refine (idx_none fv _).mono ?_; rintro e w' ⟨rfl, rfl⟩)
  go_ret
  exact ⟨rfl, rfl⟩
end Go.Proofs.Ytebdldinlodgpaa.SS
