/-
  Layer 8 (inbox): the contract of counting. Condition: the list reads as events, and is not too long.
-/
import Derived.Test.YtebdldinlodgpaaPrId
namespace Go.Proofs.Ytebdldinlodgpaa.Ib
open Go Go.RowKit Go.Lib Go.Sort Go.Shelf Go.Proofs Go.Proofs.Ytebdldinlodgpaa Go.Proofs.Ytebdldinlodgpaa.Tp Go.Proofs.Ytebdldinlodgpaa.Gm Go.Proofs.Ytebdldinlodgpaa.Rc Go.Proofs.Ytebdldinlodgpaa.SE
set_option linter.unusedVariables false

set_option maxRecDepth 100000 in
theorem equal_key2 (a b c d : Int) (w : World) : (Op.equalIn 10000 24 (.agg #[.int .i64 a, .int .i64 b]) (.agg #[.int .i64 c, .int .i64 d])).run Try.prog w = .ok (decide (a = c) && decide (b = d)) w := by
  have hS : Try.prog.underlying 24 = some (.struct (Try.prog.fieldsOf 24)) := by kernel_rfl
  have hp : Try.prog.stoodInHeld 24 = false := by kernel_rfl
  have u3 := Try.underlying3
  have a3 := Try.isAgg3
  have z3 := Try.sizeOf3
  rw [show (10000 : Nat) = 9999 + 1 from rfl, run_equalIn_agg w 9999 24 _ _ hS hp]
  simp only [Program.fieldsOf, Try.underlying24]
  go_simp
  by_cases h1 : a = c <;> by_cases h2 : b = d <;> simp [h1, h2]
def eqK2 (a b c d : Int) : Bool := decide (a = c) && decide (b = d)
theorem eql_key (a b c d : Int) (w : World) : (binOp .eql 24 (.agg #[.int .i64 a, .int .i64 b]) (.agg #[.int .i64 c, .int .i64 d])).run Try.prog w = .ok (.bool (eqK2 a b c d)) w := by
  rw [run_eql_struct, equal_key2]; rfl
theorem neq_key (a b c d : Int) (w : World) : (binOp .neq 24 (.agg #[.int .i64 a, .int .i64 b]) (.agg #[.int .i64 c, .int .i64 d])).run Try.prog w = .ok (.bool (!eqK2 a b c d)) w := by
  rw [run_neq_struct, equal_key2]; rfl
theorem grd_key : Try.prog.eqGuardType Try.prog.depth 24 = false := by kernel_rfl
/-- Alike: of one key. -/
def eqKE (a b : Ev) : Bool := eqK2 a.kt a.ks b.kt b.ks
/-- The events that count. -/
def cntL (l : List Ev) : List Ev := comp eqKE (setL cmpE l)
set_option maxRecDepth 100000 in
set_option maxHeartbeats 2000000 in
theorem cl_key (a b : Ev) (w : World) : Calls Try.prog 88 #[vC a, vC b] w fun e w' => e = .returned (.bool (eqKE a b)) ∧ ∃ q os, w' = grow (w.drewN q) os := by
  obtain ⟨a0, a1, a2, a3, a4, a5, a6⟩ := a
  obtain ⟨b0, b1, b2, b3, b4, b5, b6⟩ := b
  unfold vC eqKE
  simp only
  have HE := fun W => eql_key a0 a1 b0 b1 W
  have HG := fun op a b W => run_eqGuard_agg (P := Try.prog) W op 24 a b #[.int .i64 a0, .int .i64 a1] #[.int .i64 b0, .int .i64 b1] grd_key
  have G0 : Hid (Gr w ((w.alloc (.cells #[.int .i64 a0, .int .i64 a1, .int .i64 a2, .int .i64 a3, .int .i64 a4, .int .i64 a5, .int .i64 a6] 26)).alloc (.cells #[.int .i64 b0, .int .i64 b1, .int .i64 b2, .int .i64 b3, .int .i64 b4, .int .i64 b5, .int .i64 b6] 26))) := Lib.hid (below_two w _ _)
  generalize eqK2 a0 a1 b0 b1 = B at *
  go_enter Try.func88, Try.ntmps88
  go_wp2_with fail
  go_ret
  obtain ⟨q, os, h⟩ := G0.out
  exact ⟨rfl, q, os, h⟩
theorem eqCk (g : Nat) (w : World) : EqC 88 eqKE g w := ⟨enters_of Try.func88 (by kernel_rfl) rfl, fun a b W _ => cl_key a b W⟩
theorem cntL_len (l : List Ev) : (cntL l).length ≤ l.length := Nat.le_trans (comp_length _ _) (by have := setL_length (cmp := cmpE) l; simpa using this)
theorem one_any (w : World) (a : Option Addr) (n c : Nat) (l : List Ev) (ha : Lst w a n c l) (o : TypeId) : LL (w.alloc (.cells #[.slice a n c] o)) w.heap.size [⟨a, n, c, l⟩] := by
  have hB : Below w.heap.size w (w.alloc (.cells #[.slice a n c] o)) := (Below.refl _ _).alloc (Nat.le_refl _) _
  refine ⟨fun i hi => ?_, fun i hi => ?_⟩
  · rcases i with _ | i
    · show World.cell? _ ⟨w.heap.size, 0, none⟩ = some (.slice a n c)
      go_simp
    · exact absurd hi (by simp only [List.length_cons, List.length_nil]; omega)
  · rcases i with _ | i
    · exact ha.more hB
    · exact absurd hi (by simp only [List.length_cons, List.length_nil]; omega)
set_option maxRecDepth 100000 in
set_option maxHeartbeats 4000000 in
theorem counting_any (a : Option Addr) (n c : Nat) (l : List Ev) (hn : n ≤ 100000) (w : World) (ha : Lst w a n c l) :
    Calls Try.prog 64 #[.slice a n c] w (OwnO (cntL l) w) := by
  have P1 := Lib.hid (one_any w a n c l ha 44)
  have A1 := Lib.hid (ascending_any w.heap.size 1 1 [⟨a, n, c, l⟩] rfl (by decide) (by simp [sumN]; omega) _ P1.out)
  rw [show catN [⟨a, n, c, l⟩] 1 = l by simp [catN]] at A1
  have B1 : Hid (Below w.heap.size w (w.alloc (.cells #[.slice a n c] 44))) := Lib.hid ((Below.refl _ _).alloc (Nat.le_refl _) _)
  have NL : Hid ((setL cmpE l).length ≤ 1000000) := Lib.hid (by have := setL_length (cmp := cmpE) l; have := ha.1.1; simp at *; omega)
  have CF := Lib.hid (fun g cap W h1 h2 h3 => SE.cpf_own 88 eqKE g cap (setL cmpE l).toArray W h1 h2 (by have := NL.out; simpa using this) (by simpa using h3) (eqCk g W))
  have LC : Hid ((cntL l).length ≤ (setL cmpE l).length) := Lib.hid (comp_length _ _)
  have E0 : Hid (setL cmpE l = [] → cntL l = []) := Lib.hid (fun h => by unfold cntL; rw [h]; rfl)
  rw [show (comp eqKE (setL cmpE l).toArray.toList) = cntL l from rfl, show (setL cmpE l).toArray.size = (setL cmpE l).length by simp] at CF
  unfold OwnO at A1
  unfold DelR at CF
  clear ha P1 NL
  generalize cntL l = M at *
  generalize setL cmpE l = S at *
  go_enter Try.func64, Try.ntmps64
  go_wp2_with fail
  refine A1.out.mono ?_
  rintro e w1 ⟨a1, cap, rfl, ⟨rfl, hS, rfl⟩ | ⟨g, rfl, hr, hg0, hg1, hc⟩, hb⟩
  · have HB := Lib.hid (B1.out.trans (hb.mono B1.out.size))
    have hM := E0.out hS
    subst hM
    subst hS
    clear hb A1 CF E0 LC
    go_wp2_with fail
    refine (SE.cpf_none _ _).mono ?_
    rintro e w2 ⟨rfl, rfl⟩
    go_wp2_with fail
    go_ret
    exact ⟨none, 0, rfl, .inl ⟨rfl, rfl, rfl⟩, HB.out⟩
  · have HB := Lib.hid (B1.out.trans (hb.mono B1.out.size))
    have C3 := Lib.hid (CF.out g cap w1 hr hg1 hc)
    have HC := Lib.hid hc
    have HG0 : Hid (w.heap.size ≤ g) := Lib.hid (Nat.le_trans B1.out.size hg0)
    have HG1 := Lib.hid hg1
    clear hb hr hg0 hg1 hc A1 CF E0 B1
    go_wp2_with fail
    refine C3.out.mono ?_
    rintro e w3 ⟨rfl, h3, o3⟩
    have R3 := Lib.hid h3
    have O3 := Lib.hid o3
    clear h3 o3 C3
    go_wp2_with fail
    go_ret
    exact ⟨_, cap, rfl, .inr ⟨g, rfl, R3.out, HG0.out, Nat.lt_of_lt_of_le HG1.out O3.out.size, Nat.le_trans LC.out HC.out⟩, HB.out.trans (O3.out.below HG0.out HB.out.size)⟩
end Go.Proofs.Ytebdldinlodgpaa.Ib
