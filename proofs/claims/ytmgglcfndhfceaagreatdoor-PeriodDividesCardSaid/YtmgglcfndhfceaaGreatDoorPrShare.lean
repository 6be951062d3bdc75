/-
  Layer 2 (rounding): the mathematics of a division into parts: sums, what is missing, the order of the remainders. Conditions: weights that are not negative, with a positive sum.
-/
import Derived.Test.YtmgglcfndhfceaaGreatDoorPrDiv
import Derived.Sort.LotA
namespace Go.Proofs.YtmgglcfndhfceaaGreatDoor
open Go Go.RowKit Go.Lib Go.Sort Go.Shelf Go.Proofs
set_option linter.unusedVariables false

def sumTo (g : Nat → Int) : Nat → Int
  | 0 => 0
  | k + 1 => sumTo g k + g k
theorem sumTo_nonneg {g : Nat → Int} : ∀ {n : Nat}, (∀ i, i < n → 0 ≤ g i) → 0 ≤ sumTo g n
  | 0, _ => by simp [sumTo]
  | n + 1, h => by
    have a := sumTo_nonneg (n := n) fun i hi => h i (by omega)
    have b := h n (by omega)
    simp only [sumTo]; omega
theorem sumTo_le {g : Nat → Int} {n : Nat} (h : ∀ i, i < n → 0 ≤ g i) : ∀ {k : Nat}, k ≤ n → sumTo g k ≤ sumTo g n := by
  intro k hk
  obtain ⟨t, rfl⟩ : ∃ t, n = k + t := ⟨n - k, by omega⟩
  clear hk
  induction t with
  | zero => exact Int.le_refl _
  | succ t ih =>
    have a := ih fun i hi => h i (by omega)
    have b := h (k + t) (by omega)
    show sumTo g k ≤ sumTo g (k + t) + g (k + t)
    omega
theorem sumTo_bd {g : Nat → Int} {M : Int} : ∀ {n : Nat}, (∀ i, i < n → g i ≤ M) → sumTo g n ≤ M * n
  | 0, _ => by simp [sumTo]
  | n + 1, h => by
    have a := sumTo_bd (n := n) fun i hi => h i (by omega)
    have b := h n (by omega)
    simp only [sumTo]
    have e : M * ((n + 1 : Nat) : Int) = M * n + M := by rw [Int.natCast_succ, Int.mul_add, Int.mul_one]
    omega
theorem sumTo_congr {f g : Nat → Int} : ∀ {n : Nat}, (∀ i, i < n → f i = g i) → sumTo f n = sumTo g n
  | 0, _ => rfl
  | n + 1, h => by
    simp only [sumTo]
    rw [sumTo_congr (n := n) fun i hi => h i (by omega), h n (by omega)]

/-- The whole part of a share. -/
def baseF (T s : Int) (g : Nat → Int) (i : Nat) : Int := T * g i / s
theorem base_bd {T s : Int} {g : Nat → Int} {i : Nat} (hT : 0 ≤ T) (hs : 1 ≤ s) (h0 : 0 ≤ g i) : 0 ≤ baseF T s g i ∧ s * baseF T s g i ≤ T * g i ∧ T * g i < s * baseF T s g i + s := by
  unfold baseF
  have a := Int.mul_nonneg hT h0
  have b := Int.mul_ediv_add_emod (T * g i) s
  have c := Int.emod_nonneg (T * g i) (show s ≠ 0 by omega)
  have d := Int.emod_lt_of_pos (T * g i) (show 0 < s by omega)
  have e := Int.ediv_nonneg a (show 0 ≤ s by omega)
  exact ⟨e, by omega, by omega⟩
theorem base_sums {T s : Int} {g : Nat → Int} (hT : 0 ≤ T) (hs : 1 ≤ s) : ∀ {n : Nat}, (∀ i, i < n → 0 ≤ g i) → s * sumTo (baseF T s g) n ≤ T * sumTo g n ∧ T * sumTo g n ≤ s * sumTo (baseF T s g) n + s * n
  | 0, _ => by simp [sumTo]
  | n + 1, h => by
    obtain ⟨a, b⟩ := base_sums (n := n) hT hs fun i hi => h i (by omega)
    obtain ⟨_, c, d⟩ := base_bd (i := n) hT hs (h n (by omega))
    simp only [sumTo, Int.mul_add]
    have e : s * ((n + 1 : Nat) : Int) = s * n + s := by rw [Int.natCast_succ, Int.mul_add, Int.mul_one]
    omega
theorem miss_bd {T s : Int} {g : Nat → Int} {n : Nat} (hT : 0 ≤ T) (hs : 1 ≤ s) (h : ∀ i, i < n → 0 ≤ g i) (hS : sumTo g n = s) : 0 ≤ T - sumTo (baseF T s g) n ∧ T - sumTo (baseF T s g) n ≤ n := by
  obtain ⟨a, b⟩ := base_sums (T := T) hT hs h
  rw [hS, Int.mul_comm T s] at a b
  have c : sumTo (baseF T s g) n ≤ T := Int.le_of_mul_le_mul_left a (by omega)
  have d : T ≤ sumTo (baseF T s g) n + n := by
    refine Int.le_of_mul_le_mul_left (a := s) ?_ (by omega)
    rw [Int.mul_add]; exact b
  omega
theorem part_sum_bd {T s : Int} {g : Nat → Int} {n k : Nat} (hT : 0 ≤ T) (hs : 1 ≤ s) (h : ∀ i, i < n → 0 ≤ g i) (hS : sumTo g n = s) (hk : k ≤ n) : 0 ≤ sumTo (baseF T s g) k ∧ sumTo (baseF T s g) k ≤ T := by
  have a := sumTo_nonneg (g := baseF T s g) (n := k) fun i hi => (base_bd hT hs (h i (by omega))).1
  have b := sumTo_le (g := baseF T s g) (fun i hi => (base_bd hT hs (h i hi)).1) hk
  have c := miss_bd hT hs h hS
  omega
/-- How many parts are greater by one. -/
def missK (T s : Int) (g : Nat → Int) (n : Nat) : Nat := (T - sumTo (baseF T s g) n).toNat
theorem missK_eq {T s : Int} {g : Nat → Int} {n : Nat} (hT : 0 ≤ T) (hs : 1 ≤ s) (h : ∀ i, i < n → 0 ≤ g i) (hS : sumTo g n = s) : T - sumTo (baseF T s g) n = (missK T s g n : Int) ∧ missK T s g n ≤ n := by
  have := miss_bd hT hs h hS
  unfold missK
  omega

section
variable {n : Nat}
def encF (i : Fin n) : Value := .int .i64 (i.val : Int)
theorem encF_one : OneCell (encF (n := n)) := fun _ => rfl
/-- How divide compares two places. -/
def cfF (T s : Int) (g : Nat → Int) (i j : Fin n) : Int := Lib.compareInt (T * g j % s) (T * g i % s)
theorem cfF_lt (T s : Int) (g : Nat → Int) (i j : Fin n) : ltOf (cfF T s g) i j = decide (T * g j % s < T * g i % s) := by
  unfold ltOf cfF
  rcases cmp3 (T * g j % s) (T * g i % s) with ⟨h, e⟩ | ⟨h, e⟩ | ⟨h, e⟩ <;> rw [e] <;> simp <;> omega
theorem swoF (T s : Int) (g : Nat → Int) : SWO (ltOf (cfF (n := n) T s g)) where
  irrefl x := by rw [cfF_lt]; simp
  trans x y z h1 h2 := by rw [cfF_lt] at *; simp at *; omega
  ntrans x y z h1 h2 := by rw [cfF_lt] at *; simp at *; omega
def iotaF (n : Nat) : Array (Fin n) := Array.ofFn id
theorem iota_size : (iotaF n).size = n := by simp [iotaF]
theorem iota_at [Inhabited (Fin n)] (j : Nat) (hj : j < n) : (iotaF n)[j]! = ⟨j, hj⟩ := by
  rw [getElem!_pos _ _ (by rw [iota_size]; exact hj)]
  simp [iotaF]
/-- The places in the order in which they get what is missing. -/
def ordF (T s : Int) (g : Nat → Int) (n : Nat) [Inhabited (Fin n)] : Array (Fin n) := Sort.insertionSort (ltOf (cfF T s g)) (iotaF n) 0 (iotaF n).size
theorem ord_size [Inhabited (Fin n)] (T s : Int) (g : Nat → Int) : (ordF T s g n).size = n := by
  have h := insertionSort_holds (lt := ltOf (cfF T s g)) (swoF T s g) (iotaF n) 0 (iotaF n).size (Nat.zero_le _) (Nat.le_refl _)
  exact h.1.1.trans iota_size
/-- The place that is the t-th in the order. -/
def ordAt (T s : Int) (g : Nat → Int) (n : Nat) [Inhabited (Fin n)] (t : Nat) : Nat := ((ordF T s g n)[t]!).val
theorem ordAt_lt [Inhabited (Fin n)] (T s : Int) (g : Nat → Int) (t : Nat) : ordAt T s g n t < n := ((ordF T s g n)[t]!).isLt
/-- How often a place is among the first k. -/
def timesF (f : Nat → Nat) (i : Nat) : Nat → Int
  | 0 => 0
  | k + 1 => timesF f i k + (if f k = i then 1 else 0)
theorem times_bd (f : Nat → Nat) (i : Nat) : ∀ k, 0 ≤ timesF f i k ∧ timesF f i k ≤ k
  | 0 => by simp [timesF]
  | k + 1 => by
    have := times_bd f i k
    simp only [timesF]
    split <;> omega
/-- The parts behind k rounds. -/
def partF (T s : Int) (g : Nat → Int) (n : Nat) [Inhabited (Fin n)] (k i : Nat) : Int := baseF T s g i + timesF (ordAt T s g n) i k
end

theorem sw_only {α : Type} [Inhabited α] {enc : α → Value} {w0 W : World} {blk off : Nat} {d : Array α} (h : SW enc w0 blk off d W) : Tp.Only blk w0 W := by
  obtain ⟨m, os, rfl⟩ := h
  refine ⟨rfl, rfl, rfl, ?_, fun k hk hn => ?_⟩
  · simp [sortWorld]
  · unfold sortWorld
    rw [heap_grow_old _ _ (by simpa using hk)]
    show (w0.heap.modify blk _)[k]? = _
    rw [Array.getElem?_modify, if_neg (by omega)]
end Go.Proofs.YtmgglcfndhfceaaGreatDoor
