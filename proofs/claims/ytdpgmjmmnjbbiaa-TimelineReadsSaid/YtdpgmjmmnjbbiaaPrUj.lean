/-
  slices.Sort and slices.Compact at a row of ints of the call's own: what is left is strictly ascending and has the same members. Conditions: the row's own.
-/
import Derived.Test.YtdpgmjmmnjbbiaaPrTq
import Derived.Test.YtdpgmjmmnjbbiaaShelq
import Derived.Sort.OwnSortedInts
import Derived.Laws.OwnMore
namespace Go.Proofs.Ytdpgmjmmnjbbiaa.Tl
open Go Go.RowKit Go.Lib Go.Sort Go.Shelf Go.Proofs Go.Proofs.Ytdpgmjmmnjbbiaa Go.Proofs.Ytdpgmjmmnjbbiaa.Tp
set_option linter.unusedVariables false

/-- What compact keeps of an ascending array's first m. -/
theorem compUp (d : Array Int) (hs : ∀ i j, i ≤ j → j < d.size → d[i]! ≤ d[j]!) : ∀ m, m ≤ d.size →
    (compactUpTo d m).Pairwise (· < ·) ∧ (∀ v, v ∈ compactUpTo d m ↔ ∃ j, j < m ∧ d[j]! = v)
  | 0, _ => ⟨by simp [compactUpTo], fun v => by simp [compactUpTo]⟩
  | m + 1, hm => by
    obtain ⟨h1, h2⟩ := compUp d hs m (by omega)
    rw [compactUpTo_succ]
    by_cases hk : keeps d m = true
    · rw [if_pos hk]
      refine ⟨List.pairwise_append.mpr ⟨h1, by simp, fun a ha b hb => ?_⟩, fun v => ?_⟩
      · obtain ⟨j, hj, rfl⟩ := (h2 a).mp ha
        rw [List.mem_singleton] at hb
        subst hb
        have le : d[j]! ≤ d[m - 1]! := hs j (m - 1) (by omega) (by omega)
        have le2 : d[m - 1]! ≤ d[m]! := hs (m - 1) m (by omega) (by omega)
        have ne : d[m]! ≠ d[m - 1]! := fun e => by
          have := keeps_neg (d := d) (m := m) (by omega) e
          rw [this] at hk; cases hk
        omega
      · rw [List.mem_append, h2, List.mem_singleton]
        constructor
        · rintro (⟨j, hj, e⟩ | e)
          · exact ⟨j, by omega, e⟩
          · exact ⟨m, by omega, e.symm⟩
        · rintro ⟨j, hj, e⟩
          by_cases c : j = m
          · subst c; exact .inr e.symm
          · exact .inl ⟨j, by omega, e⟩
    · rw [if_neg hk]
      have e : d[m]! = d[m - 1]! ∧ 0 < m := by
        rcases Nat.eq_zero_or_pos m with z | z
        · exact absurd (keeps_lt_one d m (by omega)) hk
        · exact ⟨Decidable.byContradiction fun c => hk (keeps_pos c), z⟩
      refine ⟨by simpa using h1, fun v => ?_⟩
      rw [List.append_nil, h2]
      constructor
      · rintro ⟨j, hj, e'⟩; exact ⟨j, by omega, e'⟩
      · rintro ⟨j, hj, e'⟩
        by_cases c : j = m
        · subst c; exact ⟨j - 1, by omega, by rw [← e.1]; exact e'⟩
        · exact ⟨j, by omega, e'⟩

/-- The members of a list, ascending and each one once. -/
def canon (zs : List Int) : List Int := compact (zs.mergeSort fun x y => decide (x ≤ y))
theorem sorted_get (zs : List Int) : ∀ i j, i ≤ j → j < (zs.mergeSort fun x y => decide (x ≤ y)).toArray.size → (zs.mergeSort fun x y => decide (x ≤ y)).toArray[i]! ≤ (zs.mergeSort fun x y => decide (x ≤ y)).toArray[j]! := by
  intro i j hij hj
  have p : (zs.mergeSort fun x y => decide (x ≤ y)).Pairwise (fun a b => decide (a ≤ b) = true) := List.pairwise_mergeSort (by intro a b c; simp; omega) (by intro a b; simp; omega) zs
  have hj' : j < (zs.mergeSort fun x y => decide (x ≤ y)).length := by simpa using hj
  rcases Nat.lt_or_ge i j with h | h
  · have := List.pairwise_iff_getElem.mp p i j (by omega) hj' h
    simp only [decide_eq_true_eq] at this
    rw [getElem!_pos _ i (by omega), getElem!_pos _ j hj]
    exact this
  · obtain rfl : i = j := by omega
    exact Int.le_refl _
theorem canon_asc (zs : List Int) : (canon zs).Pairwise (· < ·) := (compUp _ (sorted_get zs) _ (Nat.le_refl _)).1
theorem mem_canon (zs : List Int) (v : Int) : v ∈ canon zs ↔ v ∈ zs := by
  have h := (compUp _ (sorted_get zs) _ (Nat.le_refl _)).2 v
  unfold canon compact
  rw [show (zs.mergeSort fun x y => decide (x ≤ y)).length = (zs.mergeSort fun x y => decide (x ≤ y)).toArray.size by simp, h]
  rw [← (List.mergeSort_perm zs fun x y => decide (x ≤ y)).mem_iff (a := v)]
  generalize zs.mergeSort (fun x y => decide (x ≤ y)) = ys
  rw [List.mem_iff_getElem]
  constructor
  · rintro ⟨j, hj, e⟩
    have hj' : j < ys.length := by simpa using hj
    exact ⟨j, hj', by simpa [hj'] using e⟩
  · rintro ⟨j, hj, e⟩
    exact ⟨j, by simpa using hj, by simpa [hj] using e⟩
theorem canon_len (zs : List Int) : (canon zs).length ≤ zs.length := by
  have : ∀ (d : Array Int) m, (compactUpTo d m).length ≤ m := by
    intro d m
    induction m with
    | zero => simp [compactUpTo]
    | succ m ih => rw [compactUpTo_succ, List.length_append]; split <;> simp <;> omega
  have h := this (zs.mergeSort fun x y => decide (x ≤ y)).toArray (zs.mergeSort fun x y => decide (x ≤ y)).length
  rw [List.length_mergeSort] at h
  unfold canon compact
  rwa [List.length_mergeSort]

/-- A slice value whose cells hold these ints, in a block from base on. -/
def OwnI (w : World) (base : Nat) (v : Value) (xs : List Int) : Prop :=
  (xs = [] ∧ ∃ a cap, v = .slice a 0 cap) ∨ ∃ g off cap, v = .slice (some ⟨g, off, none⟩) xs.length cap ∧ base ≤ g ∧ xs.length ≤ cap ∧ cap ≤ maxLen ∧ ∀ j (h : j < xs.length), w.cell? ⟨g, off + j, none⟩ = some (.int .i64 xs[j])
theorem OwnI.below {w w' : World} {base B : Nat} {v : Value} {xs : List Int} (h : OwnI w base v xs) (hb : Below B w w') (hB : ∀ k, w.heap.size ≤ k ∨ k < B ∨ w'.heap[k]? = w.heap[k]?) : OwnI w' base v xs := by
  rcases h with h | ⟨g, off, cap, hv, hg, hc, hm, hx⟩
  · exact .inl h
  · refine .inr ⟨g, off, cap, hv, hg, hc, hm, fun j hj => ?_⟩
    have c := hx j hj
    have lt := World.block_lt_of_cell? w _ c
    rcases hB g with k | k | k
    · exact absurd lt (by simp only; omega)
    · exact (hb.cell (p := ⟨g, off + j, none⟩) k).trans c
    · exact (World.cell?_of_block (a := ⟨g, off + j, none⟩) k).trans c
theorem OwnI.more {w w' : World} {base : Nat} {v : Value} {xs : List Int} (h : OwnI w base v xs) (hb : Below w.heap.size w w') : OwnI w' base v xs :=
  h.below hb fun k => by rcases Nat.lt_or_ge k w.heap.size with c | c
                         · exact .inr (.inl c)
                         · exact .inl c

theorem put_nil (w : World) (g n : Nat) (d : Array Int) : putRow (Value.int .i64) (Sort.ahead w n) g 0 d = grow (putRow (Value.int .i64) (Sort.ahead w n) g 0 d) #[] := (grow_empty _).symm
theorem below_put (w : World) (base g n : Nat) (d : Array Int) (os : Array Obj) (h : base ≤ g) (hB : base ≤ w.heap.size) : Below base w (grow (putRow (Value.int .i64) (Sort.ahead w n) g 0 d) os) :=
  Below.grown (Below.refl _ _) (grownBy_sortedI d) hB fun k e => by injection e with e; omega

set_option maxHeartbeats 1000000 in
/-- slices.Sort at a row of the call's own. -/
theorem sort_own (w : World) (base n : Nat) (v : Value) (zs : List Int) (hn : zs.length = n) (hown : w.ownsRow base 3 1 v n (zs.map (Value.int .i64))) (hB : base ≤ w.heap.size) (hlen : zs.length ≤ 1000000) :
    Calls Try.prog 61 #[v] w fun e w' => e = .returned (.tuple #[]) ∧ Below base w w' ∧ w'.ownsRow base 3 1 v n ((zs.mergeSort fun x y => decide (x ≤ y)).map (Value.int .i64)) := by
  subst hn
  rcases hown.2 with ⟨rfl, h0⟩ | ⟨g, cap, cur, rfl, hg, hb, hc, hm, hs, ht⟩
  · have hz : zs = [] := List.length_eq_zero_iff.mp h0
    subst hz
    exact (Try.slices_Sort_int_none _ _ w).mono fun e w' ⟨he, hw⟩ => ⟨he, by subst hw; exact Below.refl _ _, by subst hw; simpa using hown⟩
  · have hl : zs.length < 4611686018427387904 := by omega
    rw [Nat.mul_one] at ht
    exact (Try.slices_Sort_int g 0 cap zs w (holds_of_blockI hb ht) (Array.getElem?_eq_some_iff.1 hb).1 hl).mono fun e w' ⟨he, k, os, hw⟩ => ⟨he, by subst hw; exact below_put _ _ _ _ _ _ hg hB, by
      subst hw
      exact ownsRow_sortedI (by simp) hg hb hc hm hs⟩

/-- What slices.Compact leaves. -/
def CompR (base : Nat) (xs : List Int) (w : World) (e : Ending) (w' : World) : Prop := ∃ v', e = .returned v' ∧ OwnI w' base v' xs ∧ Below base w w'
set_option maxHeartbeats 1000000 in
/-- slices.Compact at a row of the call's own. -/
theorem compact_own (w : World) (base n : Nat) (v : Value) (ys : List Int) (hn : ys.length = n) (hown : w.ownsRow base 3 1 v n (ys.map (Value.int .i64))) (hB : base ≤ w.heap.size) (hle : (compact ys).length ≤ ys.length) (hne : ys ≠ [] → compact ys ≠ []) :
    Calls Try.prog 62 #[v] w (CompR base (compact ys) w) := by
  subst hn
  rcases hown.2 with ⟨rfl, h0⟩ | ⟨g, cap, cur, rfl, hg, hb, hc, hm, hs, ht⟩
  · have hz : ys = [] := List.length_eq_zero_iff.mp h0
    subst hz
    exact (Try.slices_Compact_int_empty _ _ w).mono fun e w' ⟨he, hw⟩ => ⟨_, he, .inl ⟨rfl, _, _, rfl⟩, by subst hw; exact Below.refl _ _⟩
  · have hl : ys.length ≤ 9223372036854775807 := by unfold maxLen at hm; omega
    rw [Nat.mul_one] at ht
    refine (Try.slices_Compact_int g 0 cap ys w (holds_of_blockI hb ht) hl hc).mono fun e w' ⟨he, k, hw⟩ => ⟨_, he, .inr ⟨g, 0, cap, rfl, hg, by omega, hm, ?_⟩, by subst hw; rw [put_nil]; exact below_put _ _ _ _ _ _ hg hB⟩
    intro j hj
    subst hw
    have hj2 : j < (compact ys ++ List.replicate (ys.length - (compact ys).length) 0).toArray.size := by simp; omega
    have c := cell?_putRow (Value.int .i64) (Sort.ahead w k) g 0 ys.toArray (compact ys ++ List.replicate (ys.length - (compact ys).length) 0).toArray (holds_of_blockI hb ht) (by simp; omega) j hj2
    rw [c]
    congr 2
    rw [getElem!_pos _ j hj2]
    simp [List.getElem_append_left hj]
theorem canon_ne (zs : List Int) (h : zs ≠ []) : canon zs ≠ [] := by
  intro e
  cases zs with
  | nil => exact h rfl
  | cons z zs =>
    have := (mem_canon (z :: zs) z).mpr (by simp)
    rw [e] at this; cases this
end Go.Proofs.Ytdpgmjmmnjbbiaa.Tl
