/-
  RatioRoundTrip's mathematics, second part: Parse of Format, at every fraction; what Parse accepts is valid.
-/
import Derived.Test.YtjhnapbaaifmnaaDoorPrTrip
import Derived.Test.YtjhnapbaaifmnaaDoorPrPars2
namespace Go.Proofs.YtjhnapbaaifmnaaDoor
open Go Go.RowKit Go.Lib

theorem ba_list (s : ByteArray) : s.toList = s.data.toList := by
  simp [Lib.toList_data]
theorem idx_app (r : List UInt8) : ∀ l : List UInt8, (∀ b ∈ l, b.toNat ≠ 47) → indexByte (l ++ [47] ++ r) 47 = (l.length : Int)
  | [], _ => by simp [indexByte]
  | c :: l, h => by
    have hc : ¬ c = 47 := fun e => h c List.mem_cons_self (by rw [e]; rfl)
    have := idx_app r l fun b hb => h b (List.mem_cons_of_mem _ hb)
    simp only [List.cons_append, indexByte, List.length_cons]
    rw [this]
    simp [hc]
    try omega
theorem idx_none : ∀ l : List UInt8, (∀ b ∈ l, b.toNat ≠ 47) → indexByte l 47 = -1
  | [], _ => by simp [indexByte]
  | c :: l, h => by
    have hc : ¬ c = 47 := fun e => h c List.mem_cons_self (by rw [e]; rfl)
    have := idx_none l fun b hb => h b (List.mem_cons_of_mem _ hb)
    simp only [indexByte]
    rw [this]
    simp [hc]
theorem numOf_itoa (s : ByteArray) (n : Int) (h0 : -9223372036854775808 ≤ n) (h1 : n ≤ 9223372036854775807) (h : s.data.toList = itoa n) : numOf s = some n := by
  unfold numOf
  rw [h, atoi_itoa n h0 h1]
theorem numsOf_fmt (s : ByteArray) (a b : Int) (hv : vldB a b = true) (h : s.data.toList = fmtL a b) : numsOf s = some (a, b) := by
  obtain ⟨h1, h2, h3, h4⟩ := vld_bd hv
  unfold fmtL at h
  rw [hv] at h
  simp only [if_true] at h
  by_cases e : b = 1
  · rw [if_pos e] at h
    rw [numsOf_a s (by rw [h]; exact idx_none _ (itoa_mem a)), numOf_itoa s a (by omega) (by omega) h, e]
    rfl
  · rw [if_neg e] at h
    rw [numsOf_b s (itoa a).length (by rw [h]; exact idx_app _ _ (itoa_mem a))]
    have hl : s.size = (itoa a ++ [47] ++ itoa b).length := by rw [← h]; rfl
    have e1 : (s.extract 0 (itoa a).length).data.toList = itoa a := by
      rw [ByteArray.data_extract, Array.toList_extract, h]; simp
    have e2 : (s.extract ((itoa a).length + 1) s.size).data.toList = itoa b := by
      rw [ByteArray.data_extract, Array.toList_extract, h, hl]; simp
      exact List.take_of_length_le (by omega)
    rw [numOf_itoa _ a (by omega) (by omega) e1, numOf_itoa _ b (by omega) (by omega) e2]
    rfl
theorem parsT_fmt (s : ByteArray) (a b : Int) (hv : vldB a b = true) (h : s.data.toList = fmtL a b) : parsT s = (a, b, true) :=
  parsT_yes s a b (numsOf_fmt s a b hv h) (by rw [ba_list, h]; simp)
theorem parsT_vld (s : ByteArray) (h : (parsT s).2.2 = true) : vldB (parsT s).1 (parsT s).2.1 = true ∧ fmtL (parsT s).1 (parsT s).2.1 = s.data.toList := by
  rcases hn : numsOf s with _ | ⟨n, d⟩
  · rw [parsT_none s hn] at h; cases h
  · rcases hf : (fmtL n d == s.toList) with _ | _
    · rw [parsT_no s n d hn hf] at h; cases h
    · rw [parsT_yes s n d hn hf]
      have e : fmtL n d = s.data.toList := by rw [← ba_list]; exact eq_of_beq hf
      refine ⟨?_, e⟩
      rcases hv : vldB n d with _ | _
      · have z : s.data.toList = [] := by rw [← e]; unfold fmtL; rw [hv]; rfl
        have k : numOf s = none := by unfold numOf; rw [z]; rfl
        rw [numsOf_a s (by rw [z]; rfl), k] at hn
        cases hn
      · rfl
end Go.Proofs.YtjhnapbaaifmnaaDoor
