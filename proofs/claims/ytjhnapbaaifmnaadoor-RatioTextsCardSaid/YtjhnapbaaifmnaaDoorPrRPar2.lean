/-
  Layer 1 (ratio): what the reference's Parse gives is what Parse gives, at every string. No program.
-/
import Derived.Test.YtjhnapbaaifmnaaDoorPrRPar
import Derived.Test.YtjhnapbaaifmnaaDoorPrTrip2
namespace Go.Proofs.YtjhnapbaaifmnaaDoor
open Go Go.RowKit Go.Lib

theorem digL_stop (k : Nat) (n : Int) (r : List UInt8) (h : r = [] ∨ ∃ t, r = 47 :: t) : digL k n r = (n, r) := by
  cases k with
  | zero => rfl
  | succ k =>
    rcases h with rfl | ⟨t, rfl⟩
    · rfl
    · show (if _ then _ else _) = _
      rw [if_neg (by decide)]
theorem digL_dec (u : Nat) : ∀ (k : Nat) (r : List UInt8), digL (k + nDigits u) 0 (decDigits u ++ r) = digL k u r := by
  induction u using Nat.strongRecOn with
  | _ u ih =>
    intro k r
    by_cases h : u < 10
    · rw [decDigits_one h, nDigits_small h]
      show (if _ then _ else _) = _
      rw [digit_nat u h, if_pos (by omega)]
      congr 1; omega
    · rw [decDigits, dif_neg h, nDigits_big h, show k + (nDigits (u / 10) + 1) = (k + 1) + nDigits (u / 10) by omega, List.append_assoc, ih (u / 10) (by omega)]
      show (if _ then _ else _) = _
      rw [digit_nat (u % 10) (by omega), if_pos (by omega)]
      congr 1; omega
theorem nDigits_le (m : Nat) : ∀ u, u < 10 ^ m → 1 ≤ m → nDigits u ≤ m := by
  induction m with
  | zero => intro u _ h; omega
  | succ m ih =>
    intro u h _
    by_cases c : u < 10
    · rw [nDigits_small c]; omega
    · rw [nDigits_big c]
      rcases Nat.eq_zero_or_pos m with rfl | hm
      · simp at h; omega
      · have := ih (u / 10) (by rw [Nat.pow_succ] at h; omega) hm
        omega
theorem dig_dec (u : Nat) (hu : u ≤ 1000000000000) (r : List UInt8) (h : r = [] ∨ ∃ t, r = 47 :: t) : digL 13 0 (decDigits u ++ r) = ((u : Int), r) := by
  have hd := nDigits_le 13 u (by omega) (by omega)
  obtain ⟨k, hk⟩ : ∃ k, 13 = k + nDigits u := ⟨13 - nDigits u, by omega⟩
  rw [hk, digL_dec, digL_stop _ _ _ h]
theorem dec_head (u : Nat) : ∃ c t, decDigits u = c :: t ∧ c ≠ 45 := by
  cases e : decDigits u with
  | nil => exact absurd e (dec_ne u)
  | cons c t =>
    refine ⟨c, t, rfl, ?_⟩
    intro h
    have := dec_mem u c (by rw [e]; simp)
    rw [h] at this
    exact absurd this (by decide)
/-- What is read of a number and what is behind it. -/
theorem rd_one (a : Int) (h0 : -1000000000000 ≤ a) (h1 : a ≤ 1000000000000) (r : List UInt8) (h : r = [] ∨ ∃ t, r = 47 :: t) :
    rdL (itoa a ++ r) = (a, (match r with | c :: _ => if c == 47 then (digL 13 0 r.tail).1 else 1 | [] => 1), (match r with | c :: _ => if c == 47 then (digL 13 0 r.tail).2 else r | [] => [])) := by
  by_cases hn : a < 0
  · have e : itoa a = 45 :: decDigits a.natAbs := by unfold itoa; rw [if_pos hn]
    have d := dig_dec a.natAbs (by omega) r h
    have ea : -((a.natAbs : Nat) : Int) = a := by omega
    rw [e]
    unfold rdL
    simp only [List.cons_append, beq_self_eq_true, if_true, List.tail_cons, d, ea]
    rcases h with rfl | ⟨t, rfl⟩
    · simp
    · simp
  · have e : itoa a = decDigits a.natAbs := by unfold itoa; rw [if_neg hn]; congr 1; omega
    have d := dig_dec a.natAbs (by omega) r h
    obtain ⟨c, t, hc, hne⟩ := dec_head a.natAbs
    have hb : (c == 45) = false := by simpa using hne
    have ea : ((a.natAbs : Nat) : Int) = a := by omega
    rw [e, hc]
    rw [hc] at d
    simp only [List.cons_append] at d
    unfold rdL
    simp only [List.cons_append, hb, Bool.false_eq_true, if_false, d, ea]
    rcases h with rfl | ⟨t, rfl⟩
    · simp
    · simp
theorem rd_fmt (a b : Int) (hv : vldB a b = true) : rdL (fmtL a b) = (a, b, []) := by
  obtain ⟨b0, b1, a0, a1⟩ := vld_bd hv
  unfold fmtL
  rw [hv]
  simp only [if_true]
  by_cases h : b = 1
  · subst h
    have := rd_one a a0 a1 [] (.inl rfl)
    rw [List.append_nil] at this
    simpa using this
  · rw [if_neg h]
    have d := dig_dec b.toNat (by omega) [] (.inl rfl)
    rw [List.append_nil] at d
    have e : itoa b = decDigits b.toNat := by unfold itoa; rw [if_neg (by omega)]
    have := rd_one a a0 a1 (47 :: itoa b) (.inr ⟨_, rfl⟩)
    rw [List.append_assoc]
    show rdL (itoa a ++ (47 :: itoa b)) = _
    rw [this]
    simp only [beq_self_eq_true, if_true, List.tail_cons, e, d]
    simp; omega
theorem fmt_vld {a b : Int} (h : fmtL a b ≠ []) : vldB a b = true := by
  cases hv : vldB a b
  · exact absurd (by unfold fmtL; rw [hv]; rfl) h
  · rfl
theorem fmt_ne {a b : Int} (h : vldB a b = true) : fmtL a b ≠ [] := by
  intro e
  have r := rd_fmt a b h
  rw [e] at r
  have hi : itoa a ≠ [] := by
    unfold itoa
    split
    · simp
    · exact dec_ne _
  unfold fmtL at e
  rw [h] at e
  simp only [if_true] at e
  split at e
  · exact hi e
  · simp at e
theorem rpars_eq (s : ByteArray) : rparsT s.data.toList = parsT s := by
  by_cases hp : (parsT s).2.2 = true
  · obtain ⟨v, e⟩ := parsT_vld s hp
    have r := rd_fmt _ _ v
    have p := parsT_fmt s _ _ v e.symm
    have ne := fmt_ne v
    rw [p]
    rw [e] at r ne
    unfold rparsT
    rw [r]
    simp only
    rw [if_pos ⟨trivial, e, ne⟩]
  · have q : parsT s = (0, 0, false) := by
      unfold parsT at hp ⊢
      cases hN : numsOf s with
      | none => rfl
      | some x =>
        obtain ⟨n, d⟩ := x
        rw [hN] at hp
        simp only at hp ⊢
        by_cases c : (fmtL n d == s.toList) = true
        · rw [if_pos c] at hp; exact absurd rfl hp
        · rw [if_neg c]
    rw [q]
    unfold rparsT
    rw [if_neg]
    rintro ⟨_, e, ne⟩
    have v := fmt_vld (by rw [e]; exact ne)
    have p := parsT_fmt s _ _ v e.symm
    rw [p] at hp
    exact hp rfl
end Go.Proofs.YtjhnapbaaifmnaaDoor
