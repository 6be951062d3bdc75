/-
  Layer 2 (rounding): the parts of a division add up, and each is its exact part's whole part or one more, the latter only where something was cut off. Conditions: weights that are not negative, with a positive sum.
-/
import Derived.Test.YtcdilaembophlaaGreatDoorPrAlloX
namespace Go.Proofs.YtcdilaembophlaaGreatDoor
open Go Go.RowKit Go.Lib Go.Sort Go.Shelf Go.Proofs
set_option linter.unusedVariables false

theorem sumTo_add (f g : Nat → Int) : ∀ n, sumTo (fun i => f i + g i) n = sumTo f n + sumTo g n
  | 0 => by simp [sumTo]
  | n + 1 => by simp only [sumTo]; rw [sumTo_add f g n]; omega
theorem sumTo_zero : ∀ n, sumTo (fun _ => 0) n = 0
  | 0 => rfl
  | n + 1 => by simp only [sumTo]; rw [sumTo_zero n]; rfl
theorem sumTo_neg (f : Nat → Int) : ∀ n, sumTo (fun i => -f i) n = -sumTo f n
  | 0 => by simp [sumTo]
  | n + 1 => by simp only [sumTo]; rw [sumTo_neg f n]; omega
theorem sumTo_one (c : Nat) : ∀ n, sumTo (fun i => if c = i then 1 else 0) n = if c < n then 1 else 0
  | 0 => by simp [sumTo]
  | n + 1 => by
    simp only [sumTo]
    rw [sumTo_one c n]
    by_cases h : c < n
    · rw [if_pos h, if_neg (by omega), if_pos (by omega)]; rfl
    · rw [if_neg h]
      by_cases e : c = n
      · rw [if_pos e, if_pos (by omega)]; rfl
      · rw [if_neg e, if_neg (by omega)]; rfl
theorem sumTo_times (f : Nat → Nat) (n : Nat) (hf : ∀ t, f t < n) : ∀ k, sumTo (fun i => timesF f i k) n = k
  | 0 => by
    have : sumTo (fun i => timesF f i 0) n = 0 := sumTo_zero n
    simpa using this
  | k + 1 => by
    simp only [timesF]
    rw [sumTo_add (fun i => timesF f i k) (fun i => if f k = i then 1 else 0), sumTo_times f n hf k, sumTo_one, if_pos (hf k)]
    omega
theorem sumTo_front (g : Nat → Int) : ∀ n, sumTo g (n + 1) = g 0 + sumTo (fun i => g (i + 1)) n
  | 0 => by simp [sumTo]
  | n + 1 => by
    have h := sumTo_front g n
    simp only [sumTo] at h ⊢
    omega

def lsum : List Int → Int
  | [] => 0
  | x :: l => x + lsum l
theorem lsum_perm {l m : List Int} (h : l.Perm m) : lsum l = lsum m := by
  induction h with
  | nil => rfl
  | cons x _ ih => simp only [lsum]; omega
  | swap x y l => simp only [lsum]; omega
  | trans _ _ a b => exact a.trans b
theorem lsum_list {α : Type} [Inhabited α] (f : α → Int) : ∀ l : List α, lsum (l.map f) = sumTo (fun u => f (l[u]?.getD default)) l.length
  | [] => rfl
  | x :: l => by
    have h := lsum_list f l
    show f x + lsum (l.map f) = sumTo _ (l.length + 1)
    rw [sumTo_front, h]
    simp

theorem rem_sum {n : Nat} {T s : Int} {g : Nat → Int} (hT : 0 ≤ T) (hs : 1 ≤ s) (hS : sumTo g n = s) (h0 : ∀ i, i < n → 0 ≤ g i) : sumTo (fun i => T * g i % s) n = s * missK T s g n := by
  have e : ∀ m, sumTo (fun i => T * g i % s) m + s * sumTo (baseF T s g) m = T * sumTo g m := by
    intro m
    induction m with
    | zero => simp [sumTo]
    | succ m ih =>
      simp only [sumTo, Int.mul_add]
      have := Int.mul_ediv_add_emod (T * g m) s
      unfold baseF at ih ⊢
      omega
  have h := e n
  rw [hS, Int.mul_comm T s] at h
  rw [← (missK_eq hT hs h0 hS).1, Int.mul_sub]
  omega

section
variable {n : Nat} [Inhabited (Fin n)] {T s : Int} {g : Nat → Int}
theorem ord_perm : (ordF T s g n).toList.Perm (iotaF n).toList := by
  have h := insertionSort_holds (lt := ltOf (cfF T s g)) (swoF T s g) (iotaF n) 0 (iotaF n).size (Nat.zero_le _) (Nat.le_refl _)
  have h1 := h.1.2.2
  have h2 := h.1.1
  unfold ordF
  rw [Array.extract_eq_self_of_le (by rw [h2]; exact Nat.le_refl _), Array.extract_eq_self_of_le (Nat.le_refl _)] at h1
  exact h1
theorem ord_sorted {i j : Nat} (hij : i < j) (hj : j < n) : T * g (ordAt T s g n j) % s ≤ T * g (ordAt T s g n i) % s := by
  have h := insertionSort_holds (lt := ltOf (cfF T s g)) (swoF T s g) (iotaF n) 0 (iotaF n).size (Nat.zero_le _) (Nat.le_refl _)
  have h1 := h.2 i j (Nat.zero_le _) hij (by rw [iota_size]; exact hj)
  rw [cfF_lt] at h1
  have h2 := of_decide_eq_false h1
  unfold ordAt ordF
  omega
theorem ord_get (t : Nat) (ht : t < n) : (ordF T s g n).toList[t]?.getD default = (ordF T s g n)[t]! := by
  have hs := ord_size (n := n) T s g
  rw [getElem!_pos _ _ (by rw [hs]; exact ht)]
  simp [hs, ht]
theorem ord_sum (f : Nat → Int) : sumTo (fun u => f (ordAt T s g n u)) n = sumTo f n := by
  have h := lsum_perm ((ord_perm (T := T) (s := s) (g := g) (n := n)).map (fun i : Fin n => f i.val))
  rw [lsum_list, lsum_list] at h
  have e1 : (ordF T s g n).toList.length = n := by simpa using ord_size (n := n) T s g
  have e2 : (iotaF n).toList.length = n := by simpa using iota_size (n := n)
  rw [e1, e2] at h
  rw [sumTo_congr (fun u hu => by rw [ord_get u hu])] at h
  rw [show sumTo (fun u => f (ordAt T s g n u)) n = sumTo (fun u => f (((ordF T s g n)[u]!).val)) n from rfl, h]
  refine sumTo_congr fun u hu => ?_
  simp [iotaF, hu]
theorem ord_inj {t u : Nat} (ht : t < n) (hu : u < n) (h : ordAt T s g n t = ordAt T s g n u) : t = u := by
  have hn : (ordF T s g n).toList.Nodup := by
    refine (ord_perm (T := T) (s := s) (g := g) (n := n)).nodup_iff.2 ?_
    rw [List.nodup_iff_pairwise_ne, List.pairwise_iff_getElem]
    intro i j hi hj hij
    simp [iotaF] at hi hj ⊢
    omega
  have e1 : (ordF T s g n).toList.length = n := by simpa using ord_size (n := n) T s g
  have hv : (ordF T s g n)[t]! = (ordF T s g n)[u]! := Fin.ext h
  rw [← ord_get t ht, ← ord_get u hu] at hv
  rw [List.getElem?_eq_getElem (by omega), List.getElem?_eq_getElem (by omega)] at hv
  exact (List.getElem_inj hn).1 hv
theorem times_one {k i : Nat} (hk : k ≤ n) : timesF (ordAt T s g n) i k ≤ 1 ∧ (timesF (ordAt T s g n) i k = 1 → ∃ t, t < k ∧ ordAt T s g n t = i) := by
  induction k with
  | zero => simp [timesF]
  | succ k ih =>
    obtain ⟨a, b⟩ := ih (by omega)
    have c := times_bd (ordAt T s g n) i k
    simp only [timesF]
    by_cases e : ordAt T s g n k = i
    · rw [if_pos e]
      have z : timesF (ordAt T s g n) i k = 0 := by
        rcases (by omega : timesF (ordAt T s g n) i k = 0 ∨ timesF (ordAt T s g n) i k = 1) with h | h
        · exact h
        · obtain ⟨t, h1, h2⟩ := b h
          have := ord_inj (n := n) (T := T) (s := s) (g := g) (t := t) (u := k) (by omega) (by omega) (h2.trans e.symm)
          omega
      refine ⟨by omega, fun _ => ⟨k, by omega, e⟩⟩
    · rw [if_neg e]
      refine ⟨by omega, fun h => ?_⟩
      obtain ⟨t, h1, h2⟩ := b (by omega)
      exact ⟨t, by omega, h2⟩
theorem times_zero {i : Nat} (hT : 0 ≤ T) (hs : 1 ≤ s) (hS : sumTo g n = s) (h0 : ∀ i, i < n → 0 ≤ g i) (hr : T * g i % s = 0) : timesF (ordAt T s g n) i (missK T s g n) = 0 := by
  have hk := (missK_eq hT hs h0 hS).2
  obtain ⟨a, b⟩ := times_one (T := T) (s := s) (g := g) (n := n) (i := i) hk
  have c := times_bd (ordAt T s g n) i (missK T s g n)
  rcases (by omega : timesF (ordAt T s g n) i (missK T s g n) = 0 ∨ timesF (ordAt T s g n) i (missK T s g n) = 1) with h | h
  · exact h
  · exfalso
    obtain ⟨t, h1, h2⟩ := b h
    have hsum := (ord_sum (T := T) (s := s) (g := g) (n := n) (fun i => T * g i % s)).trans (rem_sum hT hs hS h0)
    have r0 : ∀ u, 0 ≤ T * g (ordAt T s g n u) % s := fun u => Int.emod_nonneg _ (by omega)
    have r1 : ∀ u, T * g (ordAt T s g n u) % s ≤ s - 1 := fun u => by have := Int.emod_lt_of_pos (T * g (ordAt T s g n u)) (show 0 < s by omega); omega
    have r2 : ∀ m, t + m ≤ n → sumTo (fun u => T * g (ordAt T s g n u) % s) (t + m) = sumTo (fun u => T * g (ordAt T s g n u) % s) t := by
      intro m
      induction m with
      | zero => intro _; rfl
      | succ m ih =>
        intro hm
        show sumTo _ (t + m) + T * g (ordAt T s g n (t + m)) % s = _
        rw [ih (by omega)]
        have : T * g (ordAt T s g n (t + m)) % s = 0 := by
          rcases Nat.eq_zero_or_pos m with h | h
          · subst h; rw [Nat.add_zero, h2]; exact hr
          · have := ord_sorted (T := T) (s := s) (g := g) (n := n) (i := t) (j := t + m) (by omega) (by omega)
            rw [h2, hr] at this
            have := r0 (t + m)
            omega
        omega
    have r3 := r2 (n - t) (by omega)
    rw [show t + (n - t) = n by omega] at r3
    have r4 := sumTo_bd (g := fun u => T * g (ordAt T s g n u) % s) (M := s - 1) (n := t) fun u _ => r1 u
    rw [← r3] at r4
    rw [hsum] at r4
    generalize missK T s g n = k at *
    have p1 : s * ((t : Int) + 1) ≤ s * k := Int.mul_le_mul_of_nonneg_left (by omega) (by omega)
    rw [Int.mul_add, Int.mul_one] at p1
    rw [Int.sub_mul, Int.one_mul] at r4
    omega
theorem part_total (hT : 0 ≤ T) (hs : 1 ≤ s) (hS : sumTo g n = s) (h0 : ∀ i, i < n → 0 ≤ g i) : sumTo (partF T s g n (missK T s g n)) n = T := by
  have e : sumTo (partF T s g n (missK T s g n)) n = sumTo (baseF T s g) n + sumTo (fun i => timesF (ordAt T s g n) i (missK T s g n)) n := sumTo_add _ _ _
  rw [e, sumTo_times _ _ (fun t => ordAt_lt T s g t), ← (missK_eq hT hs h0 hS).1]
  omega
theorem part_near {i : Nat} (hT : 0 ≤ T) (hs : 1 ≤ s) (hS : sumTo g n = s) (h0 : ∀ i, i < n → 0 ≤ g i) :
    (partF T s g n (missK T s g n) i = T * g i / s ∨ (partF T s g n (missK T s g n) i = T * g i / s + 1 ∧ T * g i % s ≠ 0)) := by
  have c := times_bd (ordAt T s g n) i (missK T s g n)
  have d := (times_one (T := T) (s := s) (g := g) (n := n) (i := i) (missK_eq hT hs h0 hS).2).1
  unfold partF baseF
  by_cases hr : T * g i % s = 0
  · have := times_zero hT hs hS h0 hr; omega
  · omega
end
section
variable {n : Nat} [Inhabited (Fin n)] {T s : Int} {g : Nat → Int}
theorem allo_total (hs : 1 ≤ s) (hS : sumTo g n = s) (h0 : ∀ i, i < n → 0 ≤ g i) : sumTo (alloF T s g n) n = T := by
  by_cases hT : T < 0
  · have e : alloF T s g n = fun i => -(partF (-T) s g n (missK (-T) s g n) i) := by funext i; unfold alloF; rw [if_pos hT]
    rw [e, sumTo_neg, part_total (by omega) hs hS h0]; omega
  · have e : alloF T s g n = partF T s g n (missK T s g n) := by funext i; unfold alloF; rw [if_neg hT]
    rw [e, part_total (by omega) hs hS h0]
end
end Go.Proofs.YtcdilaembophlaaGreatDoor
