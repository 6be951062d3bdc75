/-
  Layer 6 (timeline): the contract of the reference's counting. Condition: the list reads as changes, the place is within it.
-/
import Derived.Test.YtdpgmjmmnjbbiaaPrVk
namespace Go.Proofs.Ytdpgmjmmnjbbiaa.Tl
open Go Go.RowKit Go.Lib Go.Sort Go.Shelf Go.Proofs Go.Proofs.Ytdpgmjmmnjbbiaa Go.Proofs.Ytdpgmjmmnjbbiaa.Tp
set_option linter.unusedVariables false

def CntR (cs : List Chg) (k : Int) (x : Chg) (w : World) (e : Ending) (w' : World) : Prop := ∃ r : Bool, e = .returned (.bool r) ∧ (r = true ↔ counts cs k x) ∧ Below w.heap.size w w'
set_option maxRecDepth 100000 in
set_option maxHeartbeats 4000000 in
theorem rcount_any (x : Addr) (n cap : Nat) (cs : List Chg) (i : Nat) (hi : i < n) (hn : n ≤ 1000000) (k : Int) (w : World) (hr : ChgRow w w.heap.size (some x) n cs) :
    Calls Try.prog 59 #[.slice (some x) n cap, .int .i64 i, .int .i64 k] w (CntR cs k cs[i]! w) := by
  have HR := Lib.hid hr
  have i0 : (0 : Int) ≤ (i : Int) := by omega
  have i1 : (i : Int) < (n : Int) := by omega
  have AI : Hid (∀ W, Below w.heap.size w W → At4 W (x.add (i * 4)) cs[i]!) := Lib.hid (fun W hW => by
    obtain ⟨y, hy, _, hc⟩ := (HR.out.below hW).2 (by omega)
    injection hy with hy; subst hy; exact hc i hi)
  have AJ : Hid (∀ W, Below w.heap.size w W → ∀ j, j < n → At4 W (x.add (j * 4)) cs[j]!) := Lib.hid (fun W hW j hj => by
    obtain ⟨y, hy, _, hc⟩ := (HR.out.below hW).2 (by omega)
    injection hy with hy; subst hy; exact hc j hj)
  have IDX : Hid (∀ y, y ∈ cs ↔ ∃ j, j < n ∧ cs[j]! = y) := Lib.hid (fun y => by
    rw [List.mem_iff_getElem]
    constructor
    · rintro ⟨j, hj, e⟩; exact ⟨j, by rw [← HR.out.1]; exact hj, by rw [getElem!_pos cs j hj]; exact e⟩
    · rintro ⟨j, hj, e⟩; have h' : j < cs.length := by rw [HR.out.1]; exact hj
      exact ⟨j, h', by rw [← getElem!_pos cs j h']; exact e⟩)
  clear hr HR
  generalize cs[i]! = c at *
  obtain ⟨f, kn, va, de⟩ := c
  obtain ⟨a0, a1, a2, a3⟩ := AI.out w (Below.refl _ _)
  simp only at a0 a1 a2 a3
  by_cases hk : k < kn
  · have t0 : decide (k < kn) = true := decide_eq_true hk
    clear AI AJ IDX
    go_enter Try.func59, Try.ntmps59
    go_wp2
    go_ret
    exact ⟨false, rfl, by simp [counts]; intro h; omega, Below.refl _ _⟩
  · have t0 : decide (k < kn) = false := decide_eq_false hk
    go_enter Try.func59, Try.ntmps59
    go_wp2
    clear a0 a1 a2 a3 t0
    go_loopw [7] (fun z wr => ∃ j : Nat, j ≤ n ∧ z = .int .i64 j ∧ Hid (∀ t, t < j → cs[t]!.fr = f → cs[t]!.kn ≤ k → ¬ lt ⟨f, kn, va, de⟩ cs[t]!) ∧ Hid (Below w.heap.size w wr)) (fun z _ => n - (intOf z).toNat)
    case atStart => exact ⟨0, by omega, rfl, Lib.hid (fun t h => absurd h (by omega)), Lib.hid (Below.refl _ _)⟩
    case round =>
      obtain ⟨j, hj, rfl, HL, HB⟩ := hrel
      by_cases hlt : j < n
      · have hd0 : decide ((j : Int) < (n : Int)) = true := decide_eq_true (by omega)
        have j0 : (0 : Int) ≤ (j : Int) := by omega
        have j1 : (j : Int) < (n : Int) := by omega
        have CI := Lib.hid (AI.out _ HB.out)
        have CJ := Lib.hid (AJ.out _ HB.out j hlt)
        have LS := Lib.hid (fun (h : cs[j]!.fr = f → cs[j]!.kn ≤ k → ¬ lt ⟨f, kn, va, de⟩ cs[j]!) => (show ∀ t, t < j + 1 → cs[t]!.fr = f → cs[t]!.kn ≤ k → ¬ lt ⟨f, kn, va, de⟩ cs[t]! from fun t ht => by
          by_cases e : t = j
          · subst e; exact h
          · exact HL.out t (by omega)))
        have MJ := Lib.hid ((IDX.out cs[j]!).2 ⟨j, hlt, rfl⟩)
        have CM := Lib.hid (fun W => rcmp_any cs[j]! ⟨f, kn, va, de⟩ W)
        have LTN := Lib.hid (cmpC_pos cs[j]! ⟨f, kn, va, de⟩)
        generalize cs[j]! = o at *
        obtain ⟨f2, k2, v2, d2⟩ := o
        simp only at LS
        have CM2 : Hid (∀ W, Calls Try.prog 42 #[.agg #[.int .i64 f2, .int .i64 k2, .int .i64 v2, .bool d2], .agg #[.int .i64 f, .int .i64 kn, .int .i64 va, .bool de]] W _) := Lib.hid CM.out
        clear CM
        generalize cmpC ⟨f2, k2, v2, d2⟩ ⟨f, kn, va, de⟩ = R at *
        obtain ⟨a0, a1, a2, a3⟩ := CI.out
        obtain ⟨q0, q1, q2, q3⟩ := CJ.out
        simp only at a0 a1 a2 a3 q0 q1 q2 q3
        by_cases hf : f2 = f
        · have hf' : f = f2 := hf.symm
          clear hf
          subst hf'
          have tf : (f == f) = true := by simp
          by_cases hk2 : k2 ≤ k
          · have tk : decide (k2 ≤ k) = true := decide_eq_true hk2
            go_wp2_with fail
            go_region_held3 (fun w' => w'.cell? (x.add (j * 4)) = some (.int .i64 f) ∧ w'.cell? ⟨(x.add (j * 4)).block, (x.add (j * 4)).off + 1, none⟩ = some (.int .i64 k2) ∧ w'.cell? ⟨(x.add (j * 4)).block, (x.add (j * 4)).off + 2, none⟩ = some (.int .i64 v2) ∧ w'.cell? ⟨(x.add (j * 4)).block, (x.add (j * 4)).off + 3, none⟩ = some (.bool d2) ∧ w'.cell? (x.add (i * 4)) = some (.int .i64 f) ∧ w'.cell? ⟨(x.add (i * 4)).block, (x.add (i * 4)).off + 1, none⟩ = some (.int .i64 kn) ∧ w'.cell? ⟨(x.add (i * 4)).block, (x.add (i * 4)).off + 2, none⟩ = some (.int .i64 va) ∧ w'.cell? ⟨(x.add (i * 4)).block, (x.add (i * 4)).off + 3, none⟩ = some (.bool de))
              (first | exact ⟨q0, q1, q2, q3, a0, a1, a2, a3⟩ | exact ⟨Q8.out.1.1, Q8.out.1.2.1, Q8.out.1.2.2.1, Q8.out.1.2.2.2, Q8.out.2.1, Q8.out.2.2.1, Q8.out.2.2.2.1, Q8.out.2.2.2.2⟩)
              (first | (go_at_call 42; (refine (CM2.out _).mono ?_); rintro e w8 ⟨rfl, b8⟩; have B8 : Hid (Below wr.heap.size wr w8) := Lib.hid ((Below.drew (Below.refl _ _)).trans b8); have Q8 : Hid (At4 w8 (x.add (j * 4)) ⟨f, k2, v2, d2⟩ ∧ At4 w8 (x.add (i * 4)) ⟨f, kn, va, de⟩) := Lib.hid ⟨CJ.out.block (B8.out.block _ CJ.out.lt), CI.out.block (B8.out.block _ CI.out.lt)⟩; clear b8))
            have HB8 := Lib.hid (HB.out.trans (B8.out.mono HB.out.size))
            clear a0 a1 a2 a3 q0 q1 q2 q3 CI CJ CM2 Q8
            by_cases hR : 0 < R
            · have tR : decide (0 < R) = true := decide_eq_true hR
              go_wp2_with fail
              go_ret
              exact ⟨false, rfl, by
                refine ⟨fun h => (by cases h), fun h => absurd (LTN.out.1 hR) (h.2 _ MJ.out rfl hk2)⟩, HB8.out⟩
            · have tR : decide (0 < R) = false := decide_eq_false hR
              go_wp2_with fail
              go_roundw
              case rel => exact ⟨j + 1, by omega, by go_num, Lib.hid (LS.out (fun _ _ h => hR (LTN.out.2 h))), HB8⟩
              case measure => simp [intOf]; omega
          · have tk : decide (k2 ≤ k) = false := decide_eq_false hk2
            go_wp2_with fail
            go_quiet (fail)
            go_wp2_with fail
            go_roundw
            case rel => exact ⟨j + 1, by omega, by go_num, Lib.hid (LS.out (fun _ h => by omega)), Lib.hid (below_dN HB.out _)⟩
            case measure => simp [intOf]; omega
        · have tf : (f2 == f) = false := by simpa using hf
          go_wp2_with fail
          go_quiet (fail)
          go_wp2_with fail
          go_roundw
          case rel => exact ⟨j + 1, by omega, by go_num, Lib.hid (LS.out (fun h => absurd h hf)), Lib.hid (below_dN HB.out _)⟩
          case measure => simp [intOf]; omega
      · have hd0 : decide ((j : Int) < (n : Int)) = false := decide_eq_false (by omega)
        go_wp2_with fail
        go_ret
        exact ⟨true, rfl, by
          refine ⟨fun _ => ⟨by show kn ≤ k; omega, fun y hy e1 e2 => ?_⟩, fun _ => rfl⟩
          obtain ⟨t, ht, rfl⟩ := (IDX.out y).1 hy
          exact HL.out t (by omega) e1 e2, HB.out⟩
end Go.Proofs.Ytdpgmjmmnjbbiaa.Tl
