/-
  Layer 5 (period): the plain mathematics of periods: numbers, spans, and that they divide the days; no condition of its own.
-/
import Derived.Test.YtmgglcfndhfceaaGreatDoorPrCt
namespace Go.Proofs.YtmgglcfndhfceaaGreatDoor.Per
open Go Go.RowKit Go.Lib Go.Proofs.YtmgglcfndhfceaaGreatDoor Go.Proofs.YtmgglcfndhfceaaGreatDoor.Cal

open Classical in
/-- The month of a day, and -1 for a day out of range. -/
noncomputable def mO (x : Int) : Int := if h : ∃ m d, MD x m d then Classical.choose h else -1
theorem mO_spec (x : Int) (h0 : 0 ≤ x) (h1 : x ≤ 84005) : MD x (mO x) (x - fst (mO x)) := by
  have h := md_ex x h0 h1
  have e : mO x = Classical.choose h := by unfold mO; rw [dif_pos h]
  rw [e]
  obtain ⟨d, hd⟩ := Classical.choose_spec h
  have := hd.eq
  rw [show x - fst (Classical.choose h) = d by omega]; exact hd
theorem mO_of {x m d : Int} (h : MD x m d) : mO x = m := by
  obtain ⟨a, b⟩ := h.range
  exact (h.uniq (mO_spec x a b)).1
theorem mO_last : mO 84005 = 2759 := mO_of (d := 30) ⟨by decide, by decide, by decide, by decide, by decide⟩
theorem mO_first : mO 0 = 0 := mO_of (d := 0) ⟨by decide, by decide, by decide, by decide, by decide⟩

/-- The days of a period of weeks. -/
def L (k : Int) : Int := if k = 2 then 14 else 7
/-- The days that are missing ahead of day 0. -/
def bef (k a : Int) : Int := (L k - a) % L k
def okP (k a : Int) : Prop := ((k = 0 ∨ k = 1) ∧ a = 0) ∨ (k = 2 ∧ 0 ≤ a ∧ a ≤ 13) ∨ (k = 3 ∧ 0 ≤ a ∧ a ≤ 6)
instance (k a : Int) : Decidable (okP k a) := by unfold okP; infer_instance
/-- The error of Valid. -/
def vE (k a : Int) : Int := if okP k a then 0 else 2
theorem L_bd (k : Int) : L k = 14 ∨ L k = 7 := by unfold L; split <;> simp
theorem bef_bd (k a : Int) : 0 ≤ bef k a ∧ bef k a < L k := by
  unfold bef
  rcases L_bd k with h | h <;> rw [h] <;> omega
/-- The number of the period of a day. -/
noncomputable def nO (k a x : Int) : Int := if k = 0 then mO x else if k = 1 then 2 * mO x + (if x < fst (mO x) + 15 then 0 else 1) else (x + bef k a) / L k
/-- The number of periods. -/
noncomputable def cnt (k a : Int) : Int := nO k a 84005 + 1
/-- The first and the last day of a period. -/
def sF (k a n : Int) : Int := if k = 0 then fst n else if k = 1 then (if n % 2 = 0 then fst (n / 2) else fst (n / 2) + 15) else max 0 (n * L k - bef k a)
def sT (k a n : Int) : Int := if k = 0 then fst n + len n - 1 else if k = 1 then (if n % 2 = 0 then fst (n / 2) + 14 else fst (n / 2) + len (n / 2) - 1) else min 84005 (n * L k - bef k a + L k - 1)

theorem nO_0 (a x : Int) : nO 0 a x = mO x := by unfold nO; rw [if_pos rfl]
theorem nO_1 (a x : Int) : nO 1 a x = 2 * mO x + (if x < fst (mO x) + 15 then 0 else 1) := by unfold nO; rw [if_neg (by decide), if_pos rfl]
theorem nO_w (k a x : Int) (h0 : k ≠ 0) (h1 : k ≠ 1) : nO k a x = (x + bef k a) / L k := by unfold nO; rw [if_neg h0, if_neg h1]
theorem cnt_0 (a : Int) : cnt 0 a = 2760 := by unfold cnt; rw [nO_0, mO_last]; rfl
theorem cnt_1 (a : Int) : cnt 1 a = 5520 := by unfold cnt; rw [nO_1, mO_last, if_neg (by decide)]; rfl
theorem cnt_w (k a : Int) (h0 : k ≠ 0) (h1 : k ≠ 1) : cnt k a = (84005 + bef k a) / L k + 1 := by unfold cnt; rw [nO_w _ _ _ h0 h1]
theorem sF_0 (a n : Int) : sF 0 a n = fst n := by unfold sF; rw [if_pos rfl]
theorem sT_0 (a n : Int) : sT 0 a n = fst n + len n - 1 := by unfold sT; rw [if_pos rfl]
theorem sF_1 (a n : Int) : sF 1 a n = if n % 2 = 0 then fst (n / 2) else fst (n / 2) + 15 := by unfold sF; rw [if_neg (by decide), if_pos rfl]
theorem sT_1 (a n : Int) : sT 1 a n = if n % 2 = 0 then fst (n / 2) + 14 else fst (n / 2) + len (n / 2) - 1 := by unfold sT; rw [if_neg (by decide), if_pos rfl]
theorem sF_w (k a n : Int) (h0 : k ≠ 0) (h1 : k ≠ 1) : sF k a n = max 0 (n * L k - bef k a) := by unfold sF; rw [if_neg h0, if_neg h1]
theorem sT_w (k a n : Int) (h0 : k ≠ 0) (h1 : k ≠ 1) : sT k a n = min 84005 (n * L k - bef k a + L k - 1) := by unfold sT; rw [if_neg h0, if_neg h1]

theorem fst_le (m : Int) (h0 : 0 ≤ m) (h1 : m ≤ 2759) : 0 ≤ fst m ∧ fst m + len m ≤ 84006 ∧ 28 ≤ len m ∧ len m ≤ 31 := by
  have a := fst_bd m h0 (by omega)
  have b := fst_bd (m + 1) (by omega) (by omega)
  have c := fst_succ m
  have d := len_bd m
  omega
theorem cnt_bd (k a : Int) : 1 ≤ cnt k a ∧ cnt k a ≤ 12003 := by
  by_cases h0 : k = 0
  · subst h0; rw [cnt_0]; omega
  · by_cases h1 : k = 1
    · subst h1; rw [cnt_1]; omega
    · rw [cnt_w k a h0 h1]
      have := bef_bd k a
      rcases L_bd k with h | h <;> rw [h] at this ⊢ <;> omega
/-- Each period has from 1 to 31 days, and they are from 0 to MaxDay. -/
theorem span_bd (k a n : Int) (h0 : 0 ≤ n) (h1 : n < cnt k a) : 0 ≤ sF k a n ∧ sF k a n ≤ sT k a n ∧ sT k a n ≤ 84005 ∧ sT k a n ≤ sF k a n + 30 := by
  by_cases e0 : k = 0
  · subst e0
    rw [cnt_0] at h1
    have := fst_le n h0 (by omega)
    rw [sF_0, sT_0]; omega
  · by_cases e1 : k = 1
    · subst e1
      rw [cnt_1] at h1
      have := fst_le (n / 2) (by omega) (by omega)
      rw [sF_1, sT_1]
      by_cases e : n % 2 = 0
      · rw [if_pos e, if_pos e]; omega
      · rw [if_neg e, if_neg e]; omega
    · rw [cnt_w k a e0 e1] at h1
      rw [sF_w k a n e0 e1, sT_w k a n e0 e1]
      have := bef_bd k a
      rcases L_bd k with h | h <;> rw [h] at this h1 ⊢ <;> omega
/-- A day is within the span of its period. -/
theorem nO_in (k a x : Int) (h0 : 0 ≤ x) (h1 : x ≤ 84005) : 0 ≤ nO k a x ∧ nO k a x < cnt k a ∧ sF k a (nO k a x) ≤ x ∧ x ≤ sT k a (nO k a x) := by
  have M := mO_spec x h0 h1
  obtain ⟨a0, a1, a2, a3, a4⟩ := M
  by_cases e0 : k = 0
  · subst e0
    rw [nO_0, cnt_0, sF_0, sT_0]; omega
  · by_cases e1 : k = 1
    · subst e1
      rw [nO_1, cnt_1, sF_1, sT_1]
      have := len_bd (mO x)
      by_cases e : x < fst (mO x) + 15
      · rw [if_pos e, if_pos (by omega), if_pos (by omega), show (2 * mO x + 0) / 2 = mO x by omega]; omega
      · rw [if_neg e, if_neg (by omega), if_neg (by omega), show (2 * mO x + 1) / 2 = mO x by omega]; omega
    · rw [sF_w k a _ e0 e1, sT_w k a _ e0 e1, cnt_w k a e0 e1, nO_w k a x e0 e1]
      have := bef_bd k a
      rcases L_bd k with h | h <;> rw [h] at this ⊢ <;> omega
/-- The last period ends with MaxDay. -/
theorem span_last (k a n : Int) (h1 : n + 1 = cnt k a) : sT k a n = 84005 := by
  by_cases e0 : k = 0
  · subst e0
    rw [cnt_0] at h1
    obtain rfl : n = 2759 := by omega
    rw [sT_0]; decide
  · by_cases e1 : k = 1
    · subst e1
      rw [cnt_1] at h1
      obtain rfl : n = 5519 := by omega
      rw [sT_1]; decide
    · rw [cnt_w k a e0 e1] at h1
      rw [sT_w k a n e0 e1]
      have := bef_bd k a
      rcases L_bd k with h | h <;> rw [h] at this h1 ⊢ <;> omega
/-- Two consecutive periods meet. -/
theorem span_next (k a n : Int) (h0 : 0 ≤ n) (h1 : n + 1 < cnt k a) : sF k a (n + 1) = sT k a n + 1 := by
  by_cases e0 : k = 0
  · subst e0
    rw [sF_0, sT_0, fst_succ]; omega
  · by_cases e1 : k = 1
    · subst e1
      rw [sF_1, sT_1]
      by_cases e : n % 2 = 0
      · rw [if_pos e, if_neg (by omega), show (n + 1) / 2 = n / 2 by omega]; omega
      · rw [if_neg e, if_pos (by omega), show (n + 1) / 2 = n / 2 + 1 by omega, fst_succ]; omega
    · rw [cnt_w k a e0 e1] at h1
      rw [sF_w k a _ e0 e1, sT_w k a n e0 e1]
      have := bef_bd k a
      rcases L_bd k with h | h <;> rw [h] at this h1 ⊢ <;> omega
theorem nO_zero (k a : Int) : nO k a 0 = 0 := by
  by_cases e0 : k = 0
  · subst e0; rw [nO_0, mO_first]
  · by_cases e1 : k = 1
    · subst e1; rw [nO_1, mO_first, if_pos (by decide)]; rfl
    · rw [nO_w k a 0 e0 e1]
      have := bef_bd k a
      rcases L_bd k with h | h <;> rw [h] at this ⊢ <;> omega

/-- The results of Of and Span, errors too. -/
noncomputable def ofE (k a x : Int) : Int := if okP k a then (if 0 ≤ x ∧ x ≤ 84005 then 0 else 2) else 2
noncomputable def ofV (k a x : Int) : Int := if okP k a ∧ 0 ≤ x ∧ x ≤ 84005 then nO k a x else 0
noncomputable def spP (k a n : Int) : Prop := okP k a ∧ 0 ≤ n ∧ n < cnt k a
open Classical in
noncomputable def spE (k a n : Int) : Int := if spP k a n then 0 else 2
open Classical in
noncomputable def spF (k a n : Int) : Int := if spP k a n then sF k a n else 0
open Classical in
noncomputable def spT (k a n : Int) : Int := if spP k a n then sT k a n else 0
noncomputable def cnV (k a : Int) : Int := if okP k a then cnt k a else 0
theorem sp_yes {k a n : Int} (h : spP k a n) : spE k a n = 0 ∧ spF k a n = sF k a n ∧ spT k a n = sT k a n := by
  unfold spE spF spT; rw [if_pos h, if_pos h, if_pos h]; exact ⟨rfl, rfl, rfl⟩
theorem sp_no {k a n : Int} (h : ¬ spP k a n) : spE k a n = 2 ∧ spF k a n = 0 ∧ spT k a n = 0 := by
  unfold spE spF spT; rw [if_neg h, if_neg h, if_neg h]; exact ⟨rfl, rfl, rfl⟩
end Go.Proofs.YtmgglcfndhfceaaGreatDoor.Per
