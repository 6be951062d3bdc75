/-
  Layer 3 (calendar): the plain mathematics of working days; no condition of its own.
-/
import Derived.Test.YtcdilaembophlaaGreatDoorPrCh
namespace Go.Proofs.YtcdilaembophlaaGreatDoor.Cal

/-- All days that rules name. -/
def nmAll (hs : List Hol) : List Int := allY hs 1970 230
/-- A working day, where the days of a list are holidays. -/
def wkB (zs : List Int) (d : Int) : Bool := decide (wd d < 5) && !decide (d ∈ zs)
/-- The working days among n days. -/
def cnt (zs : List Int) (a : Int) : Nat → Int
  | 0 => 0
  | n + 1 => cnt zs a n + if wkB zs (a + n) then 1 else 0
theorem cnt_bd (zs : List Int) (a : Int) (n : Nat) : 0 ≤ cnt zs a n ∧ cnt zs a n ≤ n := by
  induction n with
  | zero => simp [cnt]
  | succ n ih => rw [cnt]; split <;> omega
theorem cnt_add (zs : List Int) (a : Int) (n m : Nat) : cnt zs a (n + m) = cnt zs a n + cnt zs (a + n) m := by
  induction m with
  | zero => simp [cnt]
  | succ m ih =>
    rw [← Nat.add_assoc, cnt, cnt, ih, show a + ((n + m : Nat) : Int) = a + n + m by omega]; omega
theorem cnt_congr (zs ys : List Int) (a : Int) (n : Nat) (h : ∀ i : Nat, i < n → (a + i ∈ zs ↔ a + i ∈ ys)) : cnt zs a n = cnt ys a n := by
  induction n with
  | zero => rfl
  | succ n ih =>
    rw [cnt, cnt, ih fun i hi => h i (by omega)]
    have e : wkB zs (a + n) = wkB ys (a + n) := by unfold wkB; rw [decide_eq_decide.mpr (h n (by omega))]
    rw [e]
theorem cnt_nil7 (a : Int) : cnt [] a 7 = 5 := by
  have e : ∀ d, wkB [] d = decide (wd d < 5) := fun d => by simp [wkB]
  simp only [cnt, e]
  have h : wd a = 0 ∨ wd a = 1 ∨ wd a = 2 ∨ wd a = 3 ∨ wd a = 4 ∨ wd a = 5 ∨ wd a = 6 := by have := wd_bd a; omega
  unfold wd at h ⊢
  rcases h with h | h | h | h | h | h | h <;> (repeat rw [decide_eq_true (by omega)]) <;> simp <;> omega

/-- A rule names no day farther away than in a neighbouring year. -/
theorem near (h : Hol) (y : Int) (hv : h.ok = true) (h0 : 1970 ≤ y) (h1 : y ≤ 2199) (hb : h.b y = true) : nY y - 110 ≤ h.v y ∧ h.v y ≤ nY (y + 1) + 110 := by
  have hv' := of_decide_eq_true hv
  have mv := mvV_bd h.moved (h.pl y)
  have hp : h.plB y = true := by unfold Hol.b at hb; exact (Bool.and_eq_true_iff.mp hb).1
  have s := nY_succ y
  have l := lp_01 y
  have p : nY y - 110 ≤ h.pl y ∧ h.pl y ≤ nY (y + 1) + 108 := by
    unfold Hol.pl plV
    unfold Hol.plB plB at hp
    rcases hv' with ⟨k, _, _, _, _, _, o⟩ | ⟨k, _, _, _, o0, o1⟩ | ⟨k, m0, m1, d, w0, w1, o0, o1⟩
    · rw [if_pos k] at hp ⊢
      have i := of_decide_eq_true hp
      rw [if_pos i, o]
      have := i.date.year; omega
    · rw [if_neg (by omega), if_pos k]
      obtain ⟨_, _, a, b, _⟩ := easter_at y h0 h1
      rw [fst_at y 2 (by omega) (by omega)] at a
      rw [fst_at y 3 (by omega) (by omega)] at b
      have c2 := cum_bd y 2 (by omega) (by omega)
      have c3 : cum y 3 = 90 + lp y := by simp [cum]
      have c2' : cum y 2 = 59 + lp y := by simp [cum]
      omega
    · rw [if_neg (by omega), if_neg (by omega)]
      have e := fst_at y (h.month - 1) (by omega) (by omega)
      have c0 := cum_bd y (h.month - 1) (by omega) (by omega)
      have c1 := cum_mono y (h.month - 1) 12 (by omega) (by omega) (by omega)
      rw [cum_12] at c1
      rw [show 12 * (y - 1970) + (h.month - 1) = 12 * (y - 1970) + h.month - 1 by omega] at e
      have lb := len_bd (12 * (y - 1970) + h.month - 1)
      unfold nthV
      split <;> omega
  unfold Hol.v
  omega
/-- For the days of a range, the rules need to be asked for these years only. -/
theorem near_all (hs : List Hol) (hv : hs.all Hol.ok = true) (a b yf yt A : Int) (N : Nat) (hf : nY yf ≤ a ∧ a < nY (yf + 1)) (ht : nY yt ≤ b ∧ b < nY (yt + 1)) (hA : A = max 1970 (yf - 1)) (hN : A + N = min 2199 (yt + 1) + 1 ∨ (N = 0 ∧ min 2199 (yt + 1) < A)) (d : Int) (h0 : a ≤ d) (h1 : d ≤ b) :
    d ∈ allY hs A N ↔ d ∈ nmAll hs := by
  unfold nmAll
  rw [mem_allY, mem_allY]
  constructor
  · rintro ⟨i, hi, h⟩
    exact ⟨(A + i - 1970).toNat, by omega, by rw [show (1970 : Int) + ((A + i - 1970).toNat : Nat) = A + i by omega]; exact h⟩
  · rintro ⟨i, hi, h⟩
    obtain ⟨r, hr, hb, e⟩ := (mem_oneY _ _ _).mp h
    have ok := (List.all_eq_true.mp hv) r hr
    obtain ⟨n0, n1⟩ := near r (1970 + i) ok (by omega) (by omega) hb
    have s1 := nY_succ (1970 + i + 1)
    have s2 := nY_succ (1970 + i - 1)
    have l1 := lp_01 (1970 + (i : Int) + 1)
    have l2 := lp_01 (1970 + (i : Int) - 1)
    rw [show 1970 + (i : Int) - 1 + 1 = 1970 + i by omega] at s2
    have k1 : yf < 1970 + i + 1 + 1 := nY_lt (by omega)
    have k2 : 1970 + (i : Int) - 1 < yt + 1 := nY_lt (by omega)
    have k3 : 0 < N := by
      rcases hN with hN | ⟨hN, hN'⟩ <;> omega
    exact ⟨(1970 + i - A).toNat, by omega, by rw [show A + ((1970 + i - A).toNat : Nat) = 1970 + i by omega]; exact h⟩
end Go.Proofs.YtcdilaembophlaaGreatDoor.Cal
