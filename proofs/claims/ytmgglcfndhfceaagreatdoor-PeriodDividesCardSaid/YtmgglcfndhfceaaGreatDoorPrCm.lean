/-
  Layer 3 (calendar): the plain mathematics of years, months and days; no condition of its own.
-/
import Derived.Lib.Hide
namespace Go.Proofs.YtmgglcfndhfceaaGreatDoor.Cal

/-- A leap year. -/
def lpB (y : Int) : Bool := y % 4 == 0 && (y % 100 != 0 || y % 400 == 0)
def lp (y : Int) : Int := if lpB y then 1 else 0
theorem lp_01 (y : Int) : 0 ≤ lp y ∧ lp y ≤ 1 := by unfold lp; split <;> omega
/-- The day of January 1 of a year. -/
def nY (y : Int) : Int := 365 * (y - 1970) + (y - 1) / 4 - (y - 1) / 100 + (y - 1) / 400 - 477
theorem lpB_iff (y : Int) : lpB y = true ↔ (y % 4 = 0 ∧ (¬ y % 100 = 0 ∨ y % 400 = 0)) := by
  unfold lpB; simp
theorem lp_cases (y : Int) : ((y % 4 = 0 ∧ (¬ y % 100 = 0 ∨ y % 400 = 0)) ∧ lp y = 1) ∨ (¬ (y % 4 = 0 ∧ (¬ y % 100 = 0 ∨ y % 400 = 0)) ∧ lp y = 0) := by
  unfold lp
  by_cases h : lpB y = true
  · exact .inl ⟨(lpB_iff y).mp h, by rw [if_pos h]⟩
  · exact .inr ⟨fun k => h ((lpB_iff y).mpr k), by rw [if_neg h]⟩
theorem nY_succ (y : Int) : nY (y + 1) = nY y + 365 + lp y := by
  unfold nY
  rcases lp_cases y with ⟨h, e⟩ | ⟨h, e⟩ <;> rw [e] <;> omega
theorem nY_mono_nat (y : Int) (n : Nat) : nY y + 365 * n ≤ nY (y + n) ∧ nY (y + n) ≤ nY y + 366 * n := by
  induction n with
  | zero => simp
  | succ n ih =>
    have h := nY_succ (y + n)
    have l := lp_01 (y + n)
    have e : y + ((n + 1 : Nat) : Int) = y + n + 1 := by omega
    rw [e, h]; omega
theorem nY_mono (a b : Int) (h : a ≤ b) : nY a + 365 * (b - a) ≤ nY b ∧ nY b ≤ nY a + 366 * (b - a) := by
  obtain ⟨n, rfl⟩ : ∃ n : Nat, b = a + n := ⟨(b - a).toNat, by omega⟩
  have := nY_mono_nat a n; omega
theorem nY_lt {a b : Int} (h : nY a < nY b) : a < b := by
  rcases Int.lt_or_le a b with k | k
  · exact k
  · have := nY_mono b a k; omega
theorem nY_1970 : nY 1970 = 0 := by decide
theorem nY_2200 : nY 2200 = 84006 := by decide
theorem nY_1969 : nY 1969 = -365 := by decide
theorem nY_2201 : nY 2201 = 84371 := by decide
/-- The year of a day. -/
theorem year_ex (n : Nat) (day : Int) (h0 : 0 ≤ day) (h : day < nY (1970 + n)) : ∃ y : Int, 1970 ≤ y ∧ y < 1970 + n ∧ nY y ≤ day ∧ day < nY (y + 1) := by
  induction n with
  | zero => rw [show (1970 : Int) + ((0 : Nat) : Int) = 1970 from rfl, nY_1970] at h; omega
  | succ n ih =>
    rcases Int.lt_or_le day (nY (1970 + n)) with k | k
    · obtain ⟨y, a, b, c, d⟩ := ih k; exact ⟨y, a, by omega, c, d⟩
    · exact ⟨1970 + n, by omega, by omega, k, by rw [show (1970 : Int) + n + 1 = 1970 + ((n + 1 : Nat) : Int) by omega]; exact h⟩
theorem guess (day : Int) (h0 : 0 ≤ day) : nY (1970 + day / 366) ≤ day := by
  have h := (nY_mono 1970 (1970 + day / 366) (by omega)).2
  rw [nY_1970] at h; omega

/-- The days of month k (0 to 11) of year y. -/
def dm (y k : Int) : Int := if k = 1 then 28 + lp y else if k = 3 ∨ k = 5 ∨ k = 8 ∨ k = 10 then 30 else 31
theorem dm_bd (y k : Int) : 28 ≤ dm y k ∧ dm y k ≤ 31 := by
  have := lp_01 y
  unfold dm; split <;> (try split) <;> omega
/-- The days of the months ahead of month k. -/
def cum (y k : Int) : Int := if k ≤ 0 then 0 else if k = 1 then 31 else (if k = 2 then 59 else if k = 3 then 90 else if k = 4 then 120 else if k = 5 then 151 else if k = 6 then 181 else if k = 7 then 212 else if k = 8 then 243 else if k = 9 then 273 else if k = 10 then 304 else if k = 11 then 334 else 365) + lp y
theorem k_cases (k : Int) (h0 : 0 ≤ k) (h1 : k ≤ 11) : k = 0 ∨ k = 1 ∨ k = 2 ∨ k = 3 ∨ k = 4 ∨ k = 5 ∨ k = 6 ∨ k = 7 ∨ k = 8 ∨ k = 9 ∨ k = 10 ∨ k = 11 := by omega
theorem cum_succ (y k : Int) (h0 : 0 ≤ k) (h1 : k ≤ 11) : cum y (k + 1) = cum y k + dm y k := by
  rcases k_cases k h0 h1 with rfl | rfl | rfl | rfl | rfl | rfl | rfl | rfl | rfl | rfl | rfl | rfl <;> simp [cum, dm] <;> omega
theorem cum_12 (y : Int) : cum y 12 = 365 + lp y := by simp [cum]
theorem cum_0 (y : Int) : cum y 0 = 0 := by simp [cum]
theorem cum_mono_nat (y k : Int) (n : Nat) (h0 : 0 ≤ k) (h1 : k + n ≤ 12) : cum y k + 28 * n ≤ cum y (k + n) := by
  induction n with
  | zero => simp
  | succ n ih =>
    have h := cum_succ y (k + n) (by omega) (by omega)
    have l := dm_bd y (k + n)
    have := ih (by omega)
    have e : k + ((n + 1 : Nat) : Int) = k + n + 1 := by omega
    rw [e, h]; omega
theorem cum_mono (y a b : Int) (h0 : 0 ≤ a) (h : a ≤ b) (h1 : b ≤ 12) : cum y a + 28 * (b - a) ≤ cum y b := by
  obtain ⟨n, rfl⟩ : ∃ n : Nat, b = a + n := ⟨(b - a).toNat, by omega⟩
  have := cum_mono_nat y a n h0 h1; omega
theorem cum_bd (y k : Int) (h0 : 0 ≤ k) (h1 : k ≤ 12) : 0 ≤ cum y k ∧ cum y k ≤ 366 := by
  have a := cum_mono y 0 k (by omega) h0 h1
  have b := cum_mono y k 12 h0 h1 (by omega)
  have := lp_01 y
  rw [cum_0] at a; rw [cum_12] at b; omega
theorem month_ex (n : Nat) (y r : Int) (hn : n ≤ 12) (h0 : 0 ≤ r) (h : r < cum y n) : ∃ k : Int, 0 ≤ k ∧ k < n ∧ cum y k ≤ r ∧ r < cum y (k + 1) := by
  induction n with
  | zero => rw [show ((0 : Nat) : Int) = 0 from rfl, cum_0] at h; omega
  | succ n ih =>
    rcases Int.lt_or_le r (cum y n) with k | k
    · obtain ⟨x, a, b, c, d⟩ := ih (by omega) k; exact ⟨x, a, by omega, c, d⟩
    · exact ⟨n, by omega, by omega, k, h⟩

/-- Day 'day' is day d (from 0) of month k (from 0) of year y. -/
structure DateIs (day y k d : Int) : Prop where
  y0 : 1970 ≤ y
  y1 : y ≤ 2199
  k0 : 0 ≤ k
  k1 : k ≤ 11
  d0 : 0 ≤ d
  d1 : d < dm y k
  eq : day = nY y + cum y k + d
theorem date_ex (day : Int) (h0 : 0 ≤ day) (h1 : day ≤ 84005) : ∃ y k d, DateIs day y k d := by
  obtain ⟨y, a, b, c, e⟩ := year_ex 230 day h0 (by rw [show (1970 : Int) + (230 : Nat) = 2200 from rfl, nY_2200]; omega)
  rw [nY_succ] at e
  obtain ⟨k, f, g, h, i⟩ := month_ex 12 y (day - nY y) (by omega) (by omega) (by rw [show ((12 : Nat) : Int) = 12 from rfl, cum_12]; omega)
  rw [cum_succ y k f (by omega)] at i
  exact ⟨y, k, day - nY y - cum y k, a, by omega, f, by omega, by omega, by omega, by omega⟩
theorem DateIs.year {day y k d : Int} (h : DateIs day y k d) : nY y ≤ day ∧ day < nY (y + 1) := by
  have := cum_bd y k h.k0 (by have := h.k1; omega)
  have c := cum_succ y k h.k0 h.k1
  have e := cum_mono y (k + 1) 12 (by have := h.k0; omega) (by have := h.k1; omega) (by omega)
  rw [nY_succ]; rw [cum_12] at e
  have := h.eq; have := h.d0; have := h.d1; have := h.k1; omega
theorem year_uniq {day y y' : Int} (h : nY y ≤ day ∧ day < nY (y + 1)) (h' : nY y' ≤ day ∧ day < nY (y' + 1)) : y = y' := by
  have a := nY_lt (Int.lt_of_le_of_lt h.1 h'.2)
  have b := nY_lt (Int.lt_of_le_of_lt h'.1 h.2)
  omega
theorem month_uniq {y r k k' : Int} (h : cum y k ≤ r ∧ r < cum y (k + 1)) (h' : cum y k' ≤ r ∧ r < cum y (k' + 1)) (a : 0 ≤ k ∧ k ≤ 11) (a' : 0 ≤ k' ∧ k' ≤ 11) : k = k' := by
  rcases Int.lt_trichotomy k k' with c | c | c
  · have := cum_mono y (k + 1) k' (by omega) (by omega) (by omega); omega
  · exact c
  · have := cum_mono y (k' + 1) k (by omega) (by omega) (by omega); omega
theorem DateIs.uniq {day y k d y' k' d' : Int} (h : DateIs day y k d) (h' : DateIs day y' k' d') : y = y' ∧ k = k' ∧ d = d' := by
  obtain rfl := year_uniq h.year h'.year
  have e := h.eq; have e' := h'.eq
  have := h.d0; have := h.d1; have := h'.d0; have := h'.d1
  have c := cum_succ y k h.k0 h.k1
  have c' := cum_succ y k' h'.k0 h'.k1
  obtain rfl := month_uniq (y := y) (r := day - nY y) (k := k) (k' := k') ⟨by omega, by omega⟩ ⟨by omega, by omega⟩ ⟨h.k0, h.k1⟩ ⟨h'.k0, h'.k1⟩
  exact ⟨rfl, rfl, by omega⟩
theorem DateIs.range {day y k d : Int} (h : DateIs day y k d) : 0 ≤ day ∧ day ≤ 84005 := by
  have a := h.year
  have b := (nY_mono 1970 y h.y0).1
  have c := (nY_mono (y + 1) 2200 (by have := h.y1; omega)).1
  rw [nY_1970] at b; rw [nY_2200] at c
  have := h.y0; have := h.y1; omega

/-- The first day of month m. -/
def fst (m : Int) : Int := nY (1970 + m / 12) + cum (1970 + m / 12) (m % 12)
def len (m : Int) : Int := dm (1970 + m / 12) (m % 12)
theorem fst_succ (m : Int) : fst (m + 1) = fst m + len m := by
  unfold fst len
  by_cases h : m % 12 = 11
  · have e1 : (m + 1) / 12 = m / 12 + 1 := by omega
    have e2 : (m + 1) % 12 = 0 := by omega
    have c := cum_succ (1970 + m / 12) 11 (by omega) (by omega)
    rw [show (11 : Int) + 1 = 12 from rfl, cum_12] at c
    rw [e1, e2, cum_0, show (1970 : Int) + (m / 12 + 1) = 1970 + m / 12 + 1 by omega, nY_succ, h]; omega
  · have e1 : (m + 1) / 12 = m / 12 := by omega
    have e2 : (m + 1) % 12 = m % 12 + 1 := by omega
    rw [e1, e2, cum_succ _ _ (by omega) (by omega)]; omega
theorem DateIs.month {day y k d : Int} (h : DateIs day y k d) : fst (12 * (y - 1970) + k) = day - d ∧ len (12 * (y - 1970) + k) = dm y k := by
  have := h.k0; have := h.k1
  have e1 : 1970 + (12 * (y - 1970) + k) / 12 = y := by omega
  have e2 : (12 * (y - 1970) + k) % 12 = k := by omega
  unfold fst len
  rw [e1, e2]
  have := h.eq
  exact ⟨by omega, rfl⟩
theorem date_mk (m d : Int) (h0 : 0 ≤ m) (h1 : m ≤ 2759) (h2 : 0 ≤ d) (h3 : d < len m) : DateIs (fst m + d) (1970 + m / 12) (m % 12) d :=
  ⟨by omega, by omega, by omega, by omega, h2, h3, rfl⟩
theorem fst_bd (m : Int) (h0 : 0 ≤ m) (h1 : m ≤ 2760) : 0 ≤ fst m ∧ fst m ≤ 84006 := by
  by_cases h : m = 2760
  · subst h; decide
  · have l := dm_bd (1970 + m / 12) (m % 12)
    have := (date_mk m 0 h0 (by omega) (by omega) (by unfold len; omega)).range
    omega

/-- The weekday of a day. -/
def wd (day : Int) : Int := (day + 3) % 7
theorem wd_bd (day : Int) : 0 ≤ wd day ∧ wd day ≤ 6 := by unfold wd; omega

/-- Easter Sunday. -/
def moonT (y : Int) : Int := 21 + (19 * (y % 19) + (15 + (3 * (y / 100) + 3) / 4 - (8 * (y / 100) + 13) / 25)) % 30 - ((19 * (y % 19) + (15 + (3 * (y / 100) + 3) / 4 - (8 * (y / 100) + 13) / 25)) % 30 + y % 19 / 11) / 29
def eaT (y : Int) : Int :=
  let moon := nY y + cum y 2 + moonT y - 1
  moon + 7 - (wd moon + 1) % 7
theorem moon_bd (y : Int) : 20 ≤ moonT y ∧ moonT y ≤ 50 := by unfold moonT; omega
def eD (y : Int) : Int := (19 * (y % 19) + y / 100 - y / 100 / 4 - (y / 100 - (y / 100 + 8) / 25 + 1) / 3 + 15) % 30
def eE (y : Int) : Int := (32 + 2 * (y / 100 % 4) + 2 * (y % 100 / 4) - eD y - y % 100 % 4) % 7
def eF (y : Int) : Int := eD y + eE y - 7 * ((y % 19 + 11 * eD y + 22 * eE y) / 451) + 114
/-- What the reference's formula gives. -/
def erT (y : Int) : Int := nY y + cum y (eF y / 31 - 1) + eF y % 31
theorem easter_all : ∀ n : Fin 230, eaT (1970 + n.val) = erT (1970 + n.val) ∧ wd (eaT (1970 + n.val)) = 6 ∧ fst (12 * n.val + 2) + 21 ≤ eaT (1970 + n.val) ∧ eaT (1970 + n.val) ≤ fst (12 * n.val + 3) + 24 ∧ 3 ≤ eF (1970 + n.val) / 31 ∧ eF (1970 + n.val) / 31 ≤ 4 ∧ eF (1970 + n.val) % 31 ≤ 30 := by decide +kernel
theorem easter_at (y : Int) (h0 : 1970 ≤ y) (h1 : y ≤ 2199) : eaT y = erT y ∧ wd (eaT y) = 6 ∧ fst (12 * (y - 1970) + 2) + 21 ≤ eaT y ∧ eaT y ≤ fst (12 * (y - 1970) + 3) + 24 ∧ 3 ≤ eF y / 31 ∧ eF y / 31 ≤ 4 ∧ eF y % 31 ≤ 30 := by
  have h := easter_all ⟨(y - 1970).toNat, by omega⟩
  simp only at h
  rw [show (((y - 1970).toNat : Nat) : Int) = y - 1970 by omega, show (1970 : Int) + (y - 1970) = y by omega] at h
  exact h
theorem len_at (y k : Int) (h0 : 0 ≤ k) (h1 : k ≤ 11) : len (12 * (y - 1970) + k) = dm y k := by
  unfold len
  rw [show 1970 + (12 * (y - 1970) + k) / 12 = y by omega, show (12 * (y - 1970) + k) % 12 = k by omega]
theorem fst_at (y k : Int) (h0 : 0 ≤ k) (h1 : k ≤ 11) : fst (12 * (y - 1970) + k) = nY y + cum y k := by
  unfold fst
  rw [show 1970 + (12 * (y - 1970) + k) / 12 = y by omega, show (12 * (y - 1970) + k) % 12 = k by omega]
theorem fst_start (m : Int) : fst (m - m % 12) = nY (1970 + m / 12) := by
  unfold fst
  rw [show (m - m % 12) / 12 = m / 12 by omega, show (m - m % 12) % 12 = 0 by omega, cum_0]; omega
theorem len_bd (m : Int) : 28 ≤ len m ∧ len m ≤ 31 := dm_bd _ _
theorem nY_bd (y : Int) (h0 : 1969 ≤ y) (h1 : y ≤ 2201) : -365 ≤ nY y ∧ nY y ≤ 84371 := by
  have a := (nY_mono 1969 y h0).1
  have b := (nY_mono y 2201 h1).1
  rw [nY_1969] at a; rw [nY_2201] at b; omega
/-- There is such a date: month k from 1 to 12, day d from 1. -/
structure Is (y k d : Int) : Prop where
  y0 : 1970 ≤ y
  y1 : y ≤ 2199
  k0 : 1 ≤ k
  k1 : k ≤ 12
  d0 : 1 ≤ d
  d1 : d ≤ dm y (k - 1)
def dayT (y k d : Int) : Int := nY y + cum y (k - 1) + d - 1
theorem Is.date {y k d : Int} (h : Is y k d) : DateIs (dayT y k d) y (k - 1) (d - 1) :=
  ⟨h.y0, h.y1, by have := h.k0; omega, by have := h.k1; omega, by have := h.d0; omega, by have := h.d1; omega, by unfold dayT; omega⟩
theorem DateIs.is {day y k d : Int} (h : DateIs day y k d) : Is y (k + 1) (d + 1) ∧ dayT y (k + 1) (d + 1) = day := by
  have e : k + 1 - 1 = k := by omega
  refine ⟨⟨h.y0, h.y1, by have := h.k0; omega, by have := h.k1; omega, by have := h.d0; omega, ?_⟩, ?_⟩
  · rw [e]; have := h.d1; omega
  · unfold dayT; rw [e]; have := h.eq; omega
theorem eaT_bd (y : Int) (h0 : 1970 ≤ y) (h1 : y ≤ 2199) : 0 ≤ eaT y ∧ eaT y ≤ 84005 := by
  obtain ⟨_, _, a, b, _⟩ := easter_at y h0 h1
  have c := fst_bd (12 * (y - 1970) + 2) (by omega) (by omega)
  have d := (date_mk (12 * (y - 1970) + 3) 24 (by omega) (by omega) (by omega) (by have := len_bd (12 * (y - 1970) + 3); omega)).range
  omega
end Go.Proofs.YtmgglcfndhfceaaGreatDoor.Cal
