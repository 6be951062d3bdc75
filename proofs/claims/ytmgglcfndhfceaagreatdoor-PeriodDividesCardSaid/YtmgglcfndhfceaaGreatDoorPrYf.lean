/-
  Several texts in one; what each shows, and its conditions, stand ahead of it. No condition beside theirs.
-/
import Derived.Test.YtmgglcfndhfceaaGreatDoorPrDivX
import Derived.Test.YtmgglcfndhfceaaGreatDoorPrYe
/- Layer 2 (rounding): contracts of Allocate at up to 1024 weights within their limits. Conditions: the weights lie in memory and are within their limits; the total is within its limits. -/
namespace Go.Proofs.YtmgglcfndhfceaaGreatDoor
open Go Go.RowKit Go.Lib Go.Sort Go.Shelf Go.Proofs
set_option linter.unusedVariables false

theorem ret_pair {v : Value} {a b : Int} (h : a = b) : Ending.returned (.tuple #[v, .int .i64 a]) = .returned (.tuple #[v, .int .i64 b]) := by rw [h]

set_option maxHeartbeats 2000000 in
/-- No weight at all. -/
theorem alloc_nil (T : Int) (a : Option Addr) (cap : Nat) (h0 : -1000000000 ≤ T) (h1 : T ≤ 1000000000) (w : World) :
    Calls Tryz.prog 44 #[.int .i64 T, .slice a 0 cap] w fun e w' => e = .returned (.tuple #[.slice none 0 0, .int .i64 5]) ∧ w = w' := by
  have e1 := wit_yes h0 h1
  go_enter Tryz.func44, Tryz.ntmps44
  go_wp2_with (go_at_call 62; refine (wit_any _ _ _ _).mono ?_; rintro e w' ⟨rfl, rfl⟩)
  refine wp_loop_rounds 1 ?_
  rw [rounds_succ]
  go_wp2
  go_ret2
  exact ⟨rfl, rfl⟩

/-- What Allocate gives. -/
def alloF (T s : Int) (g : Nat → Int) (n : Nat) [Inhabited (Fin n)] (i : Nat) : Int :=
  if T < 0 then -(partF (-T) s g n (missK (-T) s g n) i) else partF T s g n (missK T s g n) i

set_option maxRecDepth 100000 in
set_option maxHeartbeats 4000000 in
theorem alloc_zero (n : Nat) (T : Int) (x : Addr) (cap : Nat) (g : Nat → Int) (hn : n ≤ 1024) (h0 : -1000000000 ≤ T) (h1 : T ≤ 1000000000) (g0 : ∀ k, k < n → 0 ≤ g k) (g1 : ∀ k, k < n → g k ≤ 1000000000) (hS : sumTo g n = 0) (w : World) (hrow : WRow w x n g) :
    Calls Tryz.prog 44 #[.int .i64 T, .slice (some x) n cap] w fun e w' => e = .returned (.tuple #[.slice none 0 0, .int .i64 5]) ∧ w = w' := by
  have e1 := wit_yes h0 h1
  have HR := Lib.hid hrow
  have H0 := Lib.hid g0
  have H1 := Lib.hid g1
  have HS := Lib.hid hS
  have hn2 : decide (1024 < (n : Int)) = false := decide_eq_false (by omega)
  clear hrow g0 g1 hS
  go_enter Tryz.func44, Tryz.ntmps44
  go_wp2_with (go_at_call 62; refine (wit_any _ _ _ _).mono ?_; rintro e w' ⟨rfl, rfl⟩)
  go_loop [6, 19] (fun sv i => ∃ k : Nat, k ≤ n ∧ i = .int .i64 k ∧ sv = .int .i64 (sumTo g k)) (fun _ i => n - (RowKit.intOf i).toNat)
  case atStart => exact ⟨0, by omega, rfl, rfl⟩
  case round =>
    obtain ⟨k, hk, rfl, rfl⟩ := hrel
    by_cases hlt : k < n
    · have c1 := HR.out k hlt
      have c2 := H0.out k hlt
      have c3 := H1.out k hlt
      have c4 := wit_yes c2 c3
      have c5 := sumTo_nonneg (g := g) (n := k) fun i hi => H0.out i (by omega)
      have c6 := sumTo_bd (g := g) (n := k) (M := 1000000000) fun i hi => H1.out i (by omega)
      have HQ := Lib.hid (show sumTo g (k + 1) = sumTo g k + g k from rfl)
      go_wp2_with (go_at_call 62; refine (wit_any _ _ _ _).mono ?_; rintro e w' ⟨rfl, rfl⟩)
      go_round
      case rel => exact ⟨k + 1, hlt, by go_num, by rw [HQ.out]⟩
      case measure => (first | omega | (simp [RowKit.intOf]; omega))
    · obtain rfl : k = n := by omega
      have hs := HS.out
      go_wp2
      go_ret2
      exact ⟨rfl, rfl⟩

set_option maxRecDepth 100000 in
set_option maxHeartbeats 8000000 in
theorem alloc_pos (n : Nat) [Inhabited (Fin n)] (T s : Int) (x : Addr) (cap : Nat) (g : Nat → Int) (hn : n ≤ 1024) (h0 : -1000000000 ≤ T) (h1 : T ≤ 1000000000) (g0 : ∀ k, k < n → 0 ≤ g k) (g1 : ∀ k, k < n → g k ≤ 1000000000) (hS : sumTo g n = s) (hs : 1 ≤ s) (w : World) (hx : x.block < w.heap.size) (hrow : WRow w x n g) :
    Calls Tryz.prog 44 #[.int .i64 T, .slice (some x) n cap] w fun e w' =>
      e = .returned (.tuple #[.slice (some ⟨w.heap.size + 3, 0, none⟩) n n, .int .i64 0]) ∧ RowI w' (w.heap.size + 3) n (alloF T s g n) ∧ Below w.heap.size w w' := by
  have e1 := wit_yes h0 h1
  have hn1 : 1 ≤ n := by
    rcases Nat.eq_zero_or_pos n with h | h
    · subst h; simp [sumTo] at hS; omega
    · exact h
  have hs1 : s ≤ 1000000000000000000 := by
    have := sumTo_bd (g := g) (n := n) (M := 1000000000) g1
    omega
  have HR := Lib.hid hrow
  have H0 := Lib.hid g0
  have H1 := Lib.hid g1
  have HS := Lib.hid hS
  have HX := Lib.hid hx
  have hn2 : decide (1024 < (n : Int)) = false := decide_eq_false (by omega)
  clear hrow g0 g1 hS hx
  go_enter Tryz.func44, Tryz.ntmps44
  go_wp2_with (go_at_call 62; refine (wit_any _ _ _ _).mono ?_; rintro e w' ⟨rfl, rfl⟩)
  go_loop [6, 19] (fun sv i => ∃ k : Nat, k ≤ n ∧ i = .int .i64 k ∧ sv = .int .i64 (sumTo g k)) (fun _ i => n - (RowKit.intOf i).toNat)
  case atStart => exact ⟨0, by omega, rfl, rfl⟩
  case round =>
    obtain ⟨k, hk, rfl, rfl⟩ := hrel
    by_cases hlt : k < n
    · have c1 := HR.out k hlt
      have c2 := H0.out k hlt
      have c3 := H1.out k hlt
      have c4 := wit_yes c2 c3
      have c5 := sumTo_nonneg (g := g) (n := k) fun i hi => H0.out i (by omega)
      have c6 := sumTo_bd (g := g) (n := k) (M := 1000000000) fun i hi => H1.out i (by omega)
      have HQ := Lib.hid (show sumTo g (k + 1) = sumTo g k + g k from rfl)
      go_wp2_with (go_at_call 62; refine (wit_any _ _ _ _).mono ?_; rintro e w' ⟨rfl, rfl⟩)
      go_round
      case rel => exact ⟨k + 1, hlt, by go_num, by rw [HQ.out]⟩
      case measure => (first | omega | (simp [RowKit.intOf]; omega))
    · obtain rfl : k = n := by omega
      have hss := HS.out
      have hs0 : (s == 0) = false := by simp; omega
      rcases Int.lt_or_le T 0 with hT | hT
      · have hT2 : decide (0 ≤ T) = false := decide_eq_false (by omega)
        have HF : Hid (alloF T s g k = fun i => -(partF (-T) s g k (missK (-T) s g k) i)) := Lib.hid (by funext i; unfold alloF; rw [if_pos hT])
        go_wp2_with fail
        refine (divide_any k (-T) s x cap g hn1 hn (by omega) (by omega) hs hs1 H0.out H1.out HS.out w HX.out HR.out).mono ?_
        rintro e w1 ⟨rfl, hP, hB⟩
        have HP := Lib.hid hP
        have HB := Lib.hid hB
        clear hP hB
        go_wp2_with fail
        go_loopw [10, 45] (fun v i wr => ∃ t : Nat, t ≤ k ∧ i = .int .i64 t ∧ RowI wr (w.heap.size + 3) k (fun i => if i < t then -(partF (-T) s g k (missK (-T) s g k) i) else partF (-T) s g k (missK (-T) s g k) i) ∧ Below w.heap.size w wr) (fun _ i _ => k - (RowKit.intOf i).toNat)
        case atStart => exact ⟨0, by omega, rfl, HP.out.congr fun i hi => by simp, HB.out⟩
        case round =>
          clear HP HB
          obtain ⟨t, ht, rfl, hP, hB⟩ := hrel
          by_cases hlt2 : t < k
          · have y3 := hP.cell t hlt2
            rw [if_neg (by omega)] at y3
            have y4 := hP.free t hlt2
            obtain ⟨y5, y6⟩ := part_bd (T := -T) (t := missK (-T) s g k) (by omega) hs H0.out HS.out hlt2
            have y7 := (missK_eq (T := -T) (g := g) (by omega) hs H0.out HS.out).2
            have N1 := Lib.hid (hP.set hlt2 (-(partF (-T) s g k (missK (-T) s g k) t)))
            have N4 := Lib.hid hB
            clear hP hB
            go_wp2_with fail
            refine ⟨⟨t + 1, hlt2, by go_num, N1.out.congr fun i hi => ?_, N4.out.setCell (by show w.heap.size ≤ w.heap.size + 3; omega) _⟩, by simp [RowKit.intOf]; omega⟩
            by_cases e : i = t
            · subst e; rw [if_pos rfl, if_pos (by omega)]
            · rw [if_neg e]
              by_cases e2 : i < t
              · rw [if_pos e2, if_pos (by omega)]
              · rw [if_neg e2, if_neg (by omega)]
          · obtain rfl : t = k := by omega
            have HP := Lib.hid hP
            have HB := Lib.hid hB
            clear hP hB
            go_wp2_with fail
            go_ret2
            exact ⟨rfl, HP.out.congr fun i hi => by rw [HF.out, if_pos hi], HB.out⟩
      · have hT2 : decide (0 ≤ T) = true := decide_eq_true hT
        have HF : Hid (alloF T s g k = partF T s g k (missK T s g k)) := Lib.hid (by funext i; unfold alloF; rw [if_neg (by omega)])
        go_wp2_with fail
        refine (divide_any k T s x cap g hn1 hn hT h1 hs hs1 H0.out H1.out HS.out w HX.out HR.out).mono ?_
        rintro e w1 ⟨rfl, hP, hB⟩
        have HP := Lib.hid hP
        have HB := Lib.hid hB
        clear hP hB
        go_wp2_with fail
        go_ret2
        exact ⟨rfl, by rw [HF.out]; exact HP.out, HB.out⟩
end Go.Proofs.YtmgglcfndhfceaaGreatDoor
/- Layer 5 (period): contracts of Divide: the error of Weights, and what Allocate gives. Conditions: the contract of Weights at its call. -/
namespace Go.Proofs.YtmgglcfndhfceaaGreatDoor.Per
open Go Go.RowKit Go.Lib Go.Sort Go.Shelf Go.Proofs Go.Proofs.YtmgglcfndhfceaaGreatDoor Go.Proofs.YtmgglcfndhfceaaGreatDoor.Cal Go.Proofs.YtmgglcfndhfceaaGreatDoor.Mg
set_option linter.unusedVariables false

/-- A row of n parts and no error. -/
def DivR (n : Nat) (f : Nat → Int) (w : World) (e : Ending) (w' : World) : Prop := ∃ p, e = .returned (.tuple #[.slice (some ⟨p, 0, none⟩) n n, .int .i64 0]) ∧ w.heap.size ≤ p ∧ p < w'.heap.size ∧ RowI w' p n f ∧ Below w.heap.size w w'
theorem WtsR.congr {n : Nat} {f g : Nat → Int} {w w' : World} {e : Ending} (h : WtsR n f w e w') (c : ∀ i, i ≤ n → f i = g i) : WtsR n g w e w' := by
  obtain ⟨p, cap, h1, h2, h3, h4, h5⟩ := h
  exact ⟨p, cap, h1, h2, h3, fun i hi => by rw [← c i hi]; exact h4 i hi, h5⟩
theorem wts_row {w : World} {p n : Nat} {f : Nat → Int} (h : ∀ i, i ≤ n → w.cell? ⟨p, i, none⟩ = some (.int .i64 (f i))) : WRow w ⟨p, 0, none⟩ (n + 1) f := by
  intro i hi
  have e : (⟨p, 0, none⟩ : Addr).add i = ⟨p, i, none⟩ := by unfold Addr.add; split <;> simp_all
  rw [e]; exact h i (by omega)

set_option maxRecDepth 100000 in
set_option maxHeartbeats 2000000 in
theorem pdd_err (A k a n mt : Int) (ca : Option Addr) (cn ccap : Nat) (ha : Option Addr) (hn hcap : Nat) (c : Int) (hc : (c == 0) = false) (w : World)
    (C : Calls Tryz.prog 22 #[.agg #[.int .i64 k, .int .i64 a], .int .i64 n, .slice ca cn ccap, .int .i64 mt, .slice ha hn hcap] (w.alloc (.cells #[.int .i64 k, .int .i64 a] 27)) (WtsE c (w.alloc (.cells #[.int .i64 k, .int .i64 a] 27)))) :
    Calls Tryz.prog 26 #[.int .i64 A, .agg #[.int .i64 k, .int .i64 a], .int .i64 n, .slice ca cn ccap, .int .i64 mt, .slice ha hn hcap] w (WtsE c w) := by
  have CC := Lib.hid C
  clear C
  have hc2 : (c != 0) = true := by rw [bne, hc]; rfl
  go_enter Tryz.func26, Tryz.ntmps26
  go_wp2_with fail
  refine CC.out.mono ?_
  rintro e w1 ⟨rfl, hw1⟩
  go_wp2_with fail
  go_ret2
  exact ⟨rfl, Below.trans ((Below.refl w.heap.size w).alloc (Nat.le_refl _) _) (hw1.mono (by simp))⟩
set_option maxRecDepth 100000 in
set_option maxHeartbeats 2000000 in
theorem pdd_pos (A s k a n mt : Int) (ca : Option Addr) (cn ccap : Nat) (ha : Option Addr) (hn hcap : Nat) (f : Nat → Int) [Inhabited (Fin (cn + 1))] (hcn : cn ≤ 1000) (A0 : -1000000000 ≤ A) (A1 : A ≤ 1000000000) (f0 : ∀ i, i < cn + 1 → 0 ≤ f i) (f1 : ∀ i, i < cn + 1 → f i ≤ 1000000000) (hS : sumTo f (cn + 1) = s) (hs : 1 ≤ s) (w : World)
    (C : Calls Tryz.prog 22 #[.agg #[.int .i64 k, .int .i64 a], .int .i64 n, .slice ca cn ccap, .int .i64 mt, .slice ha hn hcap] (w.alloc (.cells #[.int .i64 k, .int .i64 a] 27)) (WtsR cn f (w.alloc (.cells #[.int .i64 k, .int .i64 a] 27)))) :
    Calls Tryz.prog 26 #[.int .i64 A, .agg #[.int .i64 k, .int .i64 a], .int .i64 n, .slice ca cn ccap, .int .i64 mt, .slice ha hn hcap] w (DivR (cn + 1) (alloF A s f (cn + 1)) w) := by
  have CC := Lib.hid C
  have C2 := Lib.hid (fun x cap w hx hr => alloc_pos (cn + 1) A s x cap f (by omega) A0 A1 f0 f1 hS hs w hx hr)
  clear C f0 f1 hS
  go_enter Tryz.func26, Tryz.ntmps26
  go_wp2_with fail
  refine CC.out.mono ?_
  rintro e w1 ⟨p, cap, rfl, hp0, hp1, hrow, hw1⟩
  have HR := Lib.hid (wts_row hrow)
  have hB1 : Below w.heap.size w w1 := Below.trans ((Below.refl w.heap.size w).alloc (Nat.le_refl _) _) (hw1.mono (by simp))
  clear hrow hw1 hp0
  go_wp2_with fail
  refine (C2.out ⟨p, 0, none⟩ cap w1 hp1 HR.out).mono ?_
  rintro e w2 ⟨rfl, hR, hw2⟩
  have HR2 := Lib.hid hR
  have hB2 := hB1.trans (hw2.mono hB1.size)
  have sz := hB1.size
  have hlt : w1.heap.size + 3 < w2.heap.size := World.block_lt_of_cell? w2 ⟨w1.heap.size + 3, 0, none⟩ (hR.cell 0 (by omega))
  clear hR hw2
  go_wp2_with fail
  go_ret2
  exact ⟨w1.heap.size + 3, rfl, by omega, hlt, HR2.out, hB2⟩
end Go.Proofs.YtmgglcfndhfceaaGreatDoor.Per
