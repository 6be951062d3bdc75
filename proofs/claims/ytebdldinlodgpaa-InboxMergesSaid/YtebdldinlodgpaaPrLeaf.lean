/-
  Layer 1 (ratio): contracts of the leaves: magnitude, size (absolute values), divisor, common (greatest common divisors), Mod. Conditions: the arguments fit their kinds.
-/
import Derived.Test.YtebdldinlodgpaaRows
import Derived.WalkKit
import Derived.ProofKit
import Derived.Below
import Derived.Lib.Hide
import Derived.Deep.QuietTactic
import Derived.BigQuiet
import Derived.Outline
import Derived.IntWalk
import Derived.LoopTactic
import Derived.WalkSmall
namespace Go.Proofs.Ytebdldinlodgpaa
open Go Go.RowKit Go.Lib

theorem ret_int {k : IntKind} {a b : Int} (h : a = b) : Ending.returned (.int k a) = .returned (.int k b) := by rw [h]

theorem mag_wrap (n : Int) (h0 : -9223372036854775808 ≤ n) (hn : n < 0) : IntKind.u64.wrap (-IntKind.u64.wrap n) = (n.natAbs : Int) := by
  simp only [IntKind.wrap, IntKind.signed, IntKind.bits]
  simp
  omega

/-- The divisor loop: a, b = b%a, a while a is not 0. -/
theorem gcd_step (a b : Nat) : Nat.gcd (b % a) a = Nat.gcd a b := (Nat.gcd_rec a b).symm

theorem quiet_left {P : Program} {f : FuncId} {args : Array Value} {w : World} {n : Nat} {v : Value}
    (h : Calls P f args (w.drewN n) fun e w' => e = .returned v ∧ w.drewN n = w') : Calls P f args (w.drewN n) fun e w'' => e = .returned v ∧ ∃ m, w'' = w.drewN m :=
  h.mono fun _ _ ⟨he, hm⟩ => ⟨he, n, hm.symm⟩
theorem quiet_more {P : Program} {f : FuncId} {args : Array Value} {w : World} {n : Nat} {v : Value}
    (h : Calls P f args (w.drewN n) fun e w' => e = .returned v ∧ ∃ k, w' = (w.drewN n).drewN k) : Calls P f args (w.drewN n) fun e w'' => e = .returned v ∧ ∃ m, w'' = w.drewN m :=
  h.mono fun _ _ ⟨he, k, hm⟩ => ⟨he, n + k, by rw [hm, World.drewN_drewN]⟩

/-- What Mod computes. -/
def modT (v n : Int) : Int := v % n
theorem modT_lo (v n : Int) (hn : 1 ≤ n) : 0 ≤ modT v n := Int.emod_nonneg _ (by omega)
theorem modT_hi (v n : Int) (hn : 1 ≤ n) : modT v n < n := Int.emod_lt_of_pos _ (by omega)
theorem mod_tmod (v n : Int) : v % n = (v.tmod n) % n := by
  have h := Int.mul_tdiv_add_tmod v n
  have e : v = v.tmod n + n * v.tdiv n := by omega
  conv => lhs; rw [e]
  exact Int.add_mul_emod_self_left ..
theorem mod_neg (v n : Int) (h : v.tmod n < 0) (h2 : -n < v.tmod n) : v.tmod n + n = modT v n := by
  unfold modT
  rw [mod_tmod]
  have e : (v.tmod n) % n = (v.tmod n + n) % n := by simp
  rw [e, Int.emod_eq_of_lt (by omega) (by omega)]
theorem mod_pos (v n : Int) (h : 0 ≤ v.tmod n) (h2 : v.tmod n < n) : v.tmod n = modT v n := by
  unfold modT
  rw [mod_tmod, Int.emod_eq_of_lt h h2]
theorem tmod_lo (v n : Int) (hn : 1 ≤ n) : -n < v.tmod n := Int.lt_tmod_of_pos v (by omega)
theorem tmod_hi (v n : Int) (hn : 1 ≤ n) : v.tmod n < n := Int.tmod_lt_of_pos v (by omega)

set_option maxHeartbeats 400000 in
theorem mod_any (v n : Int) (hv0 : -9223372036854775808 ≤ v) (hv1 : v ≤ 9223372036854775807) (hn : 1 ≤ n) (hn1 : n ≤ 9223372036854775807) (w : World) :
    Calls Try.prog 31 #[.int .i64 v, .int .i64 n] w fun e w' => e = .returned (.int .i64 (modT v n)) ∧ w = w' := by
  by_cases h : 0 ≤ v
  · have h1 : 0 ≤ v % n := Int.emod_nonneg _ (by omega)
    have h2 : v % n < n := Int.emod_lt_of_pos _ (by omega)
    go_enter Try.func31, Try.ntmps31
    go_wp2
    go_ret
    exact ⟨rfl, rfl⟩
  · have h1 := tmod_lo v n hn
    have h2 := tmod_hi v n hn
    by_cases h3 : v.tmod n < 0
    · go_enter Try.func31, Try.ntmps31
      go_wp2
      go_ret
      exact ⟨ret_int (mod_neg v n h3 h1), rfl⟩
    · go_enter Try.func31, Try.ntmps31
      go_wp2
      go_ret
      exact ⟨ret_int (mod_pos v n (by omega) h2), rfl⟩
end Go.Proofs.Ytebdldinlodgpaa
