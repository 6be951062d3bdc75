/-
  Mathematics of a stable sort in blocks: the insertion sort keeps equals in their order; blocks that are merged. No condition.
-/
import Derived.Test.YtcdilaembophlaaDoorPrSt
import Derived.Sort.WalkB2
set_option linter.unusedVariables false
namespace Go.Proofs.YtcdilaembophlaaDoor.Mg
open Go Go.Sort Go.Proofs.YtcdilaembophlaaDoor
variable {α : Type} [Inhabited α] {prec R : α → α → Prop} {lt : α → α → Bool}

/-- While the element at j is let down: the rest of [a, i] is in order, and it precedes all above it. -/
structure Dn (prec R : α → α → Prop) (f0 f : Nat → α) (a j i : Nat) : Prop where
  lo : Srt prec f a j
  hi : Srt prec f (j + 1) (i + 1)
  x : ∀ p q, a ≤ p → p < j → j + 1 ≤ q → q ≤ i → prec (f p) (f q)
  up : ∀ q, j + 1 ≤ q → q ≤ i → prec (f j) (f q)
  r : ∀ p, a ≤ p → p < j → R (f p) (f j)
  out : ∀ k, k < a ∨ i < k → f k = f0 k
  from_ : ∀ k, a ≤ k → k ≤ i → ∃ k', a ≤ k' ∧ k' ≤ i ∧ f k = f0 k'
omit [Inhabited α] in
theorem Dn.done {f0 f : Nat → α} {a j i : Nat} (O : Ord prec R lt) (h : Dn prec R f0 f a j i) (haj : a ≤ j) (hji : j ≤ i) (hs : j = a ∨ lt (f j) (f (j - 1)) = false) : Mrg prec f0 f a (i + 1) := by
  refine ⟨fun k hk => h.out k (by omega), fun k p q => by obtain ⟨k', c1, c2, c3⟩ := h.from_ k p (by omega); exact ⟨k', c1, by omega, c3⟩, fun p q h1 h2 h3 => ?_⟩
  have key : ∀ p, a ≤ p → p < j → prec (f p) (f j) := fun p h1 h2 => by
    rcases hs with hs | hs
    · omega
    · have e := O.yes _ _ (h.r (j - 1) (by omega) (by omega)) hs
      exact h.lo.le O h1 (by omega : p ≤ j - 1) (by omega) e
  rcases Nat.lt_trichotomy p j with hp | hp | hp
  · rcases Nat.lt_trichotomy q j with hq | hq | hq
    · exact h.lo p q h1 h2 hq
    · rw [hq]; exact key p h1 hp
    · exact h.x p q h1 hp (by omega) (by omega)
  · rw [hp]; exact h.up q (by omega) (by omega)
  · exact h.hi p q (by omega) h2 h3
omit [Inhabited α] in
theorem Dn.step {f0 f f' : Nat → α} {a j i : Nat} (O : Ord prec R lt) (h : Dn prec R f0 f a (j + 1) i) (haj : a ≤ j) (hji : j + 1 ≤ i) (ht : lt (f (j + 1)) (f j) = true)
    (e1 : f' j = f (j + 1)) (e2 : f' (j + 1) = f j) (e3 : ∀ k, k ≠ j → k ≠ j + 1 → f' k = f k) : Dn prec R f0 f' a j i := by
  have e := O.no _ _ (h.r j haj (by omega)) ht
  refine ⟨fun p q h1 h2 h3 => ?_, fun p q h1 h2 h3 => ?_, fun p q h1 h2 h3 h4 => ?_, fun q h1 h2 => ?_, fun p h1 h2 => ?_, fun k hk => ?_, fun k h1 h2 => ?_⟩
  · rw [e3 p (by omega) (by omega), e3 q (by omega) (by omega)]; exact h.lo p q h1 h2 (by omega)
  · rcases Nat.lt_or_ge (j + 1) p with hp | hp
    · rw [e3 p (by omega) (by omega), e3 q (by omega) (by omega)]; exact h.hi p q (by omega) h2 h3
    · obtain rfl : p = j + 1 := by omega
      rw [e2, e3 q (by omega) (by omega)]; exact h.x j q haj (by omega) (by omega) (by omega)
  · rw [e3 p (by omega) (by omega)]
    rcases Nat.lt_or_ge (j + 1) q with hq | hq
    · rw [e3 q (by omega) (by omega)]; exact h.x p q h1 (by omega) (by omega) h4
    · obtain rfl : q = j + 1 := by omega
      rw [e2]; exact h.lo p j h1 h2 (by omega)
  · rw [e1]
    rcases Nat.lt_or_ge (j + 1) q with hq | hq
    · rw [e3 q (by omega) (by omega)]; exact h.up q (by omega) h2
    · obtain rfl : q = j + 1 := by omega
      rw [e2]; exact e
  · rw [e1, e3 p (by omega) (by omega)]; exact h.r p h1 (by omega)
  · rw [e3 k (by omega) (by omega)]; exact h.out k hk
  · by_cases c1 : k = j
    · rw [c1, e1]; exact h.from_ (j + 1) (by omega) hji
    · by_cases c2 : k = j + 1
      · rw [c2, e2]; exact h.from_ j haj (by omega)
      · rw [e3 k c1 c2]; exact h.from_ k h1 h2
theorem inner_mrg (O : Ord prec R lt) (f0 : Nat → α) (a i : Nat) : ∀ (j : Nat) (d : Array α), a ≤ j → j ≤ i → i < d.size → Dn prec R f0 (fn d) a j i → (insInner lt a j d).size = d.size ∧ Mrg prec f0 (fn (insInner lt a j d)) a (i + 1) := by
  intro j
  induction j with
  | zero => intro d h1 h2 h3 h; exact ⟨rfl, h.done O h1 h2 (.inl (by omega))⟩
  | succ j ih =>
    intro d h1 h2 h3 h
    by_cases c : (decide (j + 1 > a) && lt d[j + 1]! d[j]!) = true
    · have e : insInner lt a (j + 1) d = insInner lt a j (swp d (j + 1) j) := by rw [insInner, if_pos c]
      rw [e]
      simp only [Bool.and_eq_true, decide_eq_true_eq] at c
      have hz := swp_size d (j + 1) j
      obtain ⟨s1, s2⟩ := ih (swp d (j + 1) j) (by omega) (by omega) (by omega) (h.step O (by omega) h2 c.2
        (by show (swp d (j + 1) j)[j]! = _; rw [swp_get d (by omega) (by omega), if_pos rfl]; rfl)
        (by show (swp d (j + 1) j)[j + 1]! = _; rw [swp_get d (by omega) (by omega), if_neg (by omega), if_pos rfl]; rfl)
        (fun k k1 k2 => by show (swp d (j + 1) j)[k]! = _; rw [swp_get d (by omega) (by omega), if_neg k1, if_neg k2]; rfl))
      exact ⟨s1.trans hz, s2⟩
    · have e : insInner lt a (j + 1) d = d := by rw [insInner, if_neg c]
      rw [e]
      refine ⟨rfl, h.done O h1 h2 ?_⟩
      rcases Nat.lt_or_ge a (j + 1) with c2 | c2
      · right
        cases c3 : lt d[j + 1]! d[j]! with
        | false => exact c3
        | true => exact absurd (by simp [c3]; omega) c
      · left; omega
omit [Inhabited α] in
theorem Mrg.trans {f g h : Nat → α} {a b b' : Nat} (h1 : Mrg prec f g a b) (h2 : Mrg prec g h a b') (hb : b ≤ b') : Mrg prec f h a b' :=
  ⟨fun k hk => (h2.out k hk).trans (h1.out k (by omega)), fun k p q => by
    obtain ⟨k', c1, c2, c3⟩ := h2.from_ k p q
    rcases Nat.lt_or_ge k' b with c | c
    · obtain ⟨k2, d1, d2, d3⟩ := h1.from_ k' c1 c
      exact ⟨k2, d1, by omega, c3.trans d3⟩
    · exact ⟨k', c1, c2, c3.trans (h1.out k' (.inr c))⟩, h2.srt⟩
theorem outer_mrg (O : Ord prec R lt) (a b : Nat) (f0 : Nat → α) (hR : ∀ i j, a ≤ i → i < j → j < b → R (f0 i) (f0 j)) :
    ∀ (N i : Nat) (d : Array α), b - i ≤ N → a < i → i ≤ b → b ≤ d.size → Mrg prec f0 (fn d) a i → (insOuter lt a b i d).size = d.size ∧ Mrg prec f0 (fn (insOuter lt a b i d)) a b := by
  intro N
  induction N with
  | zero =>
    intro i d h1 h2 h3 h4 h
    rw [insOuter, if_neg (by omega)]
    obtain rfl : i = b := by omega
    exact ⟨rfl, h⟩
  | succ N ih =>
    intro i d h1 h2 h3 h4 h
    rw [insOuter]
    split
    · rename_i hib
      have D : Dn prec R (fn d) (fn d) a i i := by
        refine ⟨h.srt, fun p q _ _ _ => by omega, fun p q _ _ _ _ => by omega, fun q _ _ => by omega, fun p h5 h6 => ?_, fun _ _ => rfl, fun k c1 c2 => ⟨k, c1, c2, rfl⟩⟩
        obtain ⟨k', c1, c2, c3⟩ := h.from_ p h5 h6
        rw [c3, h.out i (.inr (Nat.le_refl _))]
        exact hR k' i c1 c2 hib
      obtain ⟨s1, s2⟩ := inner_mrg O (fn d) a i i d (by omega) (Nat.le_refl _) (by omega) D
      obtain ⟨u1, u2⟩ := ih (i + 1) (insInner lt a i d) (by omega) (by omega) (by omega) (by omega) (h.trans s2 (by omega))
      exact ⟨u1.trans s1, u2⟩
    · obtain rfl : i = b := by omega
      exact ⟨rfl, h⟩
/-- The insertion sort keeps equals in their order. -/
theorem ins_mrg (O : Ord prec R lt) (d : Array α) (a b : Nat) (hab : a ≤ b) (hb : b ≤ d.size) (hR : ∀ i j, a ≤ i → i < j → j < b → R (fn d i) (fn d j)) : (insertionSort lt d a b).size = d.size ∧ Mrg prec (fn d) (fn (insertionSort lt d a b)) a b := by
  unfold insertionSort
  have triv : ∀ c, c ≤ a + 1 → Mrg prec (fn d) (fn d) a c := fun c hc => ⟨fun _ _ => rfl, fun k p q => ⟨k, p, q, rfl⟩, fun i j _ _ _ => by omega⟩
  rcases Nat.lt_or_ge a b with h | h
  · exact outer_mrg O a b (fn d) hR (b - (a + 1)) (a + 1) d (by omega) (by omega) (by omega) hb (triv _ (Nat.le_refl _))
  · rw [insOuter, if_neg (by omega)]
    exact ⟨rfl, triv b (by omega)⟩

/-- In order where E says 'of one block', the first ahead of the second elsewhere. -/
def Blk (prec R : α → α → Prop) (f : Nat → α) (E : Nat → Nat → Prop) (n : Nat) : Prop := ∀ i j, i < j → j < n → (E i j → prec (f i) (f j)) ∧ (¬ E i j → R (f i) (f j))
omit [Inhabited α] in
theorem Blk.merge {f g : Nat → α} {E E' : Nat → Nat → Prop} {n a b : Nat} (h : Blk prec R f E n) (hM : Mrg prec f g a b) (hb : b ≤ n) (hl : ∀ i j, i < a → a ≤ j → j < b → ¬ E i j) (hr : ∀ i j, a ≤ i → i < b → b ≤ j → j < n → ¬ E i j)
    (he : ∀ i j, i < j → j < n → (E' i j ↔ E i j ∨ (a ≤ i ∧ j < b))) : Blk prec R g E' n := by
  intro i j hij hj
  have hE := he i j hij hj
  by_cases hi : a ≤ i ∧ i < b
  · by_cases hj2 : j < b
    · exact ⟨fun _ => hM.srt i j hi.1 hij hj2, fun c => absurd (hE.2 (.inr ⟨hi.1, hj2⟩)) c⟩
    · obtain ⟨i', c1, c2, c3⟩ := hM.from_ i hi.1 hi.2
      rw [c3, hM.out j (.inr (by omega))]
      have := hr i j hi.1 hi.2 (by omega) hj
      exact ⟨fun c => by rcases hE.1 c with c | c; exact absurd c this; omega, fun _ => (h i' j (by omega) hj).2 (hr i' j c1 c2 (by omega) hj)⟩
  · by_cases hj2 : a ≤ j ∧ j < b
    · obtain ⟨j', c1, c2, c3⟩ := hM.from_ j hj2.1 hj2.2
      rw [c3, hM.out i (by omega)]
      have := hl i j (by omega) hj2.1 hj2.2
      exact ⟨fun c => by rcases hE.1 c with c | c; exact absurd c this; omega, fun _ => (h i j' (by omega) (by omega)).2 (hl i j' (by omega) c1 c2)⟩
    · rw [hM.out i (by omega), hM.out j (by omega)]
      refine ⟨fun c => ?_, fun c => (h i j hij hj).2 (fun d => c (hE.2 (.inl d)))⟩
      rcases hE.1 c with c | c
      · exact (h i j hij hj).1 c
      · omega
omit [Inhabited α] in
theorem Blk.congr {f : Nat → α} {E E' : Nat → Nat → Prop} {n : Nat} (h : Blk prec R f E n) (he : ∀ i j, i < j → j < n → (E' i j ↔ E i j)) : Blk prec R f E' n := fun i j hij hj =>
  ⟨fun c => (h i j hij hj).1 ((he i j hij hj).1 c), fun c => (h i j hij hj).2 (fun d => c ((he i j hij hj).2 d))⟩
end Go.Proofs.YtcdilaembophlaaDoor.Mg
