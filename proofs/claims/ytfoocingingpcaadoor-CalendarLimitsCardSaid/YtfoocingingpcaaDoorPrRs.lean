/-
  The contract of same: two slices that hold the same ints are the same. Condition: their cells.
-/
import Derived.Test.YtfoocingingpcaaDoorPrCs
namespace Go.Proofs.YtfoocingingpcaaDoor
open Go Go.RowKit Go.Lib Go.Sort

set_option maxRecDepth 100000 in
set_option maxHeartbeats 1000000 in
theorem same_nil (A B : Option Addr) (c c' : Nat) (w : World) :
    Calls Tryd.prog 16 #[.slice A 0 c, .slice B 0 c'] w fun e w' => e = .returned (.bool true) ∧ w = w' := by
  go_enter Tryd.func16, Tryd.ntmps16
  go_wp2
  refine wp_loop_rounds 1 ?_
  rw [rounds_succ]
  go_wp2
  go_ret
  exact ⟨rfl, rfl⟩
/-- What same leaves where the lists are one. -/
def SameP (w : World) (e : Ending) (w' : World) : Prop := e = .returned (.bool true) ∧ Below w.heap.size w w'
set_option maxRecDepth 100000 in
set_option maxHeartbeats 1000000 in
theorem same_row (xs : List Int) (g off cap g' off' cap' : Nat) (hl : xs.length ≤ 300000) (w : World) (h1 : ∀ j (h : j < xs.length), w.cell? ⟨g, off + j, none⟩ = some (.int .i64 xs[j])) (h2 : ∀ j (h : j < xs.length), w.cell? ⟨g', off' + j, none⟩ = some (.int .i64 xs[j])) :
    Calls Tryd.prog 16 #[.slice (some ⟨g, off, none⟩) xs.length cap, .slice (some ⟨g', off', none⟩) xs.length cap'] w (SameP w) := by
  have H1 := Lib.hid h1
  have H2 := Lib.hid h2
  obtain ⟨n, hn⟩ : ∃ n, xs.length = n := ⟨_, rfl⟩
  have HN := Lib.hid hn
  rw [hn]
  have hl' : n ≤ 300000 := by omega
  clear h1 h2 hn hl
  go_enter Tryd.func16, Tryd.ntmps16
  go_wp2
  go_loopw [5] (fun x wr => ∃ k m : Nat, k ≤ n ∧ x = .int .i64 k ∧ wr = w.drewN m) (fun x _ => n - (intOf x).toNat)
  case atStart => exact ⟨0, 0, by omega, rfl, rfl⟩
  case round =>
    obtain ⟨k, m, hk, rfl, rfl⟩ := hrel
    by_cases hlt : k < n
    · have hk' : k < xs.length := by rw [HN.out]; exact hlt
      have c1 : ∀ q, (w.drewN q).cell? ⟨g, off + k, none⟩ = some (.int .i64 xs[k]) := fun q => H1.out k hk'
      have c2 : ∀ q, (w.drewN q).cell? ⟨g', off' + k, none⟩ = some (.int .i64 xs[k]) := fun q => H2.out k hk'
      generalize xs[k] = v at c1 c2
      have hd : decide ((k : Int) < (n : Int)) = true := decide_eq_true (by omega)
      go_wp2
      go_quiet (fail)
      go_wp2
      go_roundw
      case rel => exact ⟨k + 1, _, by omega, by go_num, rfl⟩
      case measure => simp [intOf]; omega
    · go_wp2
      go_ret
      exact ⟨rfl, below_drewN (Below.refl _ _) _⟩
theorem same_own {w : World} {b b' : Nat} {v v' : Value} {xs : List Int} (hl : xs.length ≤ 300000) (h1 : OwnI w b v xs) (h2 : OwnI w b' v' xs) :
    Calls Tryd.prog 16 #[v, v'] w (SameP w) := by
  by_cases hx : xs = []
  · subst hx
    obtain ⟨A, c, rfl⟩ : ∃ A c, v = .slice A 0 c := by
      rcases h1 with ⟨_, h⟩ | ⟨g, off, cap, hv, _⟩
      · exact h
      · exact ⟨_, _, hv⟩
    obtain ⟨B, c', rfl⟩ : ∃ A c, v' = .slice A 0 c := by
      rcases h2 with ⟨_, h⟩ | ⟨g, off, cap, hv, _⟩
      · exact h
      · exact ⟨_, _, hv⟩
    exact (same_nil A B c c' w).mono fun e w' ⟨he, hw⟩ => ⟨he, by subst hw; exact Below.refl _ _⟩
  · rcases h1 with ⟨h, _⟩ | ⟨g, off, cap, rfl, _, _, _, h1⟩
    · exact absurd h hx
    · rcases h2 with ⟨h, _⟩ | ⟨g', off', cap', rfl, _, _, _, h2⟩
      · exact absurd h hx
      · exact same_row xs g off cap g' off' cap' hl w h1 h2
end Go.Proofs.YtfoocingingpcaaDoor
