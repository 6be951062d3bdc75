/-
  Layer 5 (period): the plain mathematics of parts and their weights; no condition of its own.
-/
import Derived.Test.YtmgglcfndhfceaaGreatDoorPrYm
import Derived.Test.YtmgglcfndhfceaaGreatDoorPrCn
import Derived.Test.YtmgglcfndhfceaaGreatDoorPrShare
namespace Go.Proofs.YtmgglcfndhfceaaGreatDoor.Per
open Go Go.RowKit Go.Lib Go.Proofs.YtmgglcfndhfceaaGreatDoor Go.Proofs.YtmgglcfndhfceaaGreatDoor.Cal

/-- The first day of part i of n + 1 parts. -/
def bnd (g : Nat → Int) (F T : Int) (n i : Nat) : Int := if i = 0 then F else if i ≤ n then g (i - 1) else T + 1
theorem bnd_0 (g : Nat → Int) (F T : Int) (n : Nat) : bnd g F T n 0 = F := by unfold bnd; rw [if_pos rfl]
theorem bnd_cut (g : Nat → Int) (F T : Int) (n i : Nat) (h : i < n) : bnd g F T n (i + 1) = g i := by unfold bnd; rw [if_neg (by omega), if_pos (by omega)]; rfl
theorem bnd_end (g : Nat → Int) (F T : Int) (n : Nat) : bnd g F T n (n + 1) = T + 1 := by unfold bnd; rw [if_neg (by omega), if_neg (by omega)]
/-- The cuts divide the days from F to T. -/
def dvP (g : Nat → Int) (F T : Int) (n : Nat) : Prop := ∀ i, i < n → bnd g F T n i < g i ∧ g i ≤ T
theorem bnd_step {g : Nat → Int} {F T : Int} {n i : Nat} (hF : F ≤ T) (h : dvP g F T n) (hi : i ≤ n) : bnd g F T n i < bnd g F T n (i + 1) := by
  by_cases e : i < n
  · rw [bnd_cut _ _ _ _ _ e]; exact (h i e).1
  · obtain rfl : i = n := by omega
    rw [bnd_end]
    rcases i with _ | i
    · rw [bnd_0]; omega
    · rw [bnd_cut _ _ _ _ _ (by omega)]; have := (h i (by omega)).2; omega
theorem bnd_mono {g : Nat → Int} {F T : Int} {n : Nat} (hF : F ≤ T) (h : dvP g F T n) : ∀ (k i : Nat), i + k ≤ n + 1 → bnd g F T n i + k ≤ bnd g F T n (i + k)
  | 0, i, _ => by simp
  | k + 1, i, hk => by
    have a := bnd_mono hF h k i (by omega)
    have b := bnd_step (i := i + k) hF h (by omega)
    rw [show i + (k + 1) = i + k + 1 by omega]; omega
theorem bnd_le {g : Nat → Int} {F T : Int} {n i j : Nat} (hF : F ≤ T) (h : dvP g F T n) (hij : i ≤ j) (hj : j ≤ n + 1) : bnd g F T n i ≤ bnd g F T n j := by
  have := bnd_mono hF h (j - i) i (by omega)
  rw [show i + (j - i) = j by omega] at this; omega
theorem bnd_in {g : Nat → Int} {F T : Int} {n i : Nat} (hF : F ≤ T) (h : dvP g F T n) (hi : i ≤ n) : F ≤ bnd g F T n i ∧ bnd g F T n i ≤ T := by
  have a := bnd_le hF h (Nat.zero_le i) (by omega)
  have b := bnd_step hF h hi
  have c := bnd_le (i := i + 1) (j := n + 1) hF h (by omega) (by omega)
  rw [bnd_0] at a; rw [bnd_end] at c; omega
/-- There are no more cuts than days. -/
theorem cuts_few {g : Nat → Int} {F T : Int} {n : Nat} (hF : F ≤ T) (h : dvP g F T n) : (n : Int) ≤ T - F := by
  have a := bnd_mono hF h (n + 1) 0 (by omega)
  rw [bnd_0, Nat.zero_add, bnd_end] at a; omega

/-- The weight of a day. -/
noncomputable def dw (mt : Int) (Z : List Int) (x : Int) : Int := if mt = 0 then 1 else if mt = 1 then (if wkB Z x then 1 else 0) else (if x - fst (mO x) + 1 = len (mO x) then 31 - len (mO x) else 1)
theorem dw_bd (mt : Int) (Z : List Int) (x : Int) : 0 ≤ dw mt Z x ∧ dw mt Z x ≤ 3 := by
  have := len_bd (mO x)
  unfold dw
  split
  · omega
  · split
    · split <;> omega
    · split <;> omega
/-- The sum over n days. -/
def sumD (f : Int → Int) (a : Int) : Nat → Int
  | 0 => 0
  | n + 1 => sumD f a n + f (a + n)
theorem sumD_add (f : Int → Int) (a : Int) (n m : Nat) : sumD f a (n + m) = sumD f a n + sumD f (a + n) m := by
  induction m with
  | zero => simp [sumD]
  | succ m ih =>
    rw [← Nat.add_assoc, sumD, sumD, ih, show a + ((n + m : Nat) : Int) = a + n + m by omega]; omega
theorem sumD_bd (mt : Int) (Z : List Int) (a : Int) (n : Nat) : 0 ≤ sumD (dw mt Z) a n ∧ sumD (dw mt Z) a n ≤ 3 * n := by
  induction n with
  | zero => simp [sumD]
  | succ n ih => rw [sumD]; have := dw_bd mt Z (a + n); omega
theorem sumD_0 (Z : List Int) (a : Int) (n : Nat) : sumD (dw 0 Z) a n = n := by
  induction n with
  | zero => rfl
  | succ n ih => rw [sumD, ih]; unfold dw; rw [if_pos rfl]; omega
theorem sumD_1 (Z : List Int) (a : Int) (n : Nat) : sumD (dw 1 Z) a n = Cal.cnt Z a n := by
  induction n with
  | zero => rfl
  | succ n ih => rw [sumD, ih, Cal.cnt]; unfold dw; rw [if_neg (by decide), if_pos rfl]
theorem dw_2 (Z : List Int) {x m d : Int} (h : MD x m d) : dw 2 Z x = if d + 1 = len m then 31 - len m else 1 := by
  unfold dw
  rw [if_neg (by decide), if_neg (by decide), mO_of h]
  have := h.eq
  rw [show x - fst m = d by omega]
/-- Days of a month ahead of its last one. -/
theorem sumD_2a (Z : List Int) (m a : Int) (h0 : 0 ≤ m) (h1 : m ≤ 2759) (ha : fst m ≤ a) : ∀ n : Nat, a + n ≤ fst m + len m - 1 → sumD (dw 2 Z) a n = n
  | 0, _ => rfl
  | n + 1, h => by
    rw [sumD, sumD_2a Z m a h0 h1 ha n (by omega), dw_2 Z (m := m) (d := a + n - fst m) ⟨h0, h1, by omega, by omega, by omega⟩, if_neg (by omega)]; omega
theorem sumD_2b (Z : List Int) (m a : Int) (h0 : 0 ≤ m) (h1 : m ≤ 2759) (ha : fst m ≤ a) (n : Nat) (h : a + n = fst m + len m) (hn : 1 ≤ n) : sumD (dw 2 Z) a n = n + 30 - len m := by
  obtain ⟨k, rfl⟩ : ∃ k, n = k + 1 := ⟨n - 1, by omega⟩
  rw [sumD, sumD_2a Z m a h0 h1 ha k (by omega), dw_2 Z (m := m) (d := a + k - fst m) ⟨h0, h1, by omega, by omega, by omega⟩, if_pos (by omega)]; omega
/-- What weight computes: the part from a to b, of a whole that ends with T. -/
theorem part_2 (Z : List Int) (m a b : Int) (h0 : 0 ≤ m) (h1 : m ≤ 2759) (ha : fst m ≤ a) (hab : a ≤ b) (hb : b ≤ fst m + len m - 1) :
    sumD (dw 2 Z) a (b - a + 1).toNat = if b = fst m + len m - 1 then b - a + 1 + 30 - len m else b - a + 1 := by
  by_cases e : b = fst m + len m - 1
  · rw [if_pos e, sumD_2b Z m a h0 h1 ha _ (by omega) (by omega)]; omega
  · rw [if_neg e, sumD_2a Z m a h0 h1 ha _ (by omega)]; omega

/-- The weight of part i. -/
noncomputable def wtF (mt : Int) (Z : List Int) (g : Nat → Int) (F T : Int) (n i : Nat) : Int := sumD (dw mt Z) (bnd g F T n i) (bnd g F T n (i + 1) - bnd g F T n i).toNat
theorem wt_bd (mt : Int) (Z : List Int) {g : Nat → Int} {F T : Int} {n i : Nat} (hF : F ≤ T) (h30 : T ≤ F + 30) (h : dvP g F T n) (hi : i ≤ n) : 0 ≤ wtF mt Z g F T n i ∧ wtF mt Z g F T n i ≤ 93 := by
  have a := sumD_bd mt Z (bnd g F T n i) (bnd g F T n (i + 1) - bnd g F T n i).toNat
  have b := bnd_in hF h hi
  have c := bnd_le (i := i + 1) (j := n + 1) hF h (by omega) (by omega)
  rw [bnd_end] at c
  unfold wtF; omega
theorem wt_sum (mt : Int) (Z : List Int) {g : Nat → Int} {F T : Int} {n : Nat} (hF : F ≤ T) (h : dvP g F T n) : ∀ k : Nat, k ≤ n + 1 → sumTo (wtF mt Z g F T n) k = sumD (dw mt Z) F (bnd g F T n k - F).toNat
  | 0, _ => by rw [bnd_0, show (F - F).toNat = 0 by omega]; rfl
  | k + 1, hk => by
    have a := bnd_in hF h (i := k) (by omega)
    have b := bnd_step hF h (i := k) (by omega)
    have e : (bnd g F T n (k + 1) - F).toNat = (bnd g F T n k - F).toNat + (bnd g F T n (k + 1) - bnd g F T n k).toNat := by omega
    rw [sumTo, wt_sum mt Z hF h k (by omega), e, sumD_add, show F + (((bnd g F T n k - F).toNat : Nat) : Int) = bnd g F T n k by omega]; rfl
/-- The weight of a whole period. -/
noncomputable def whole (mt : Int) (Z : List Int) (F T : Int) : Int := sumD (dw mt Z) F (T + 1 - F).toNat
theorem wt_total (mt : Int) (Z : List Int) {g : Nat → Int} {F T : Int} {n : Nat} (hF : F ≤ T) (h : dvP g F T n) : sumTo (wtF mt Z g F T n) (n + 1) = whole mt Z F T := by
  rw [wt_sum mt Z hF h (n + 1) (by omega), bnd_end]; rfl
theorem whole_bd (mt : Int) (Z : List Int) {F T : Int} (hF : F ≤ T) (h30 : T ≤ F + 30) : 0 ≤ whole mt Z F T ∧ whole mt Z F T ≤ 93 := by
  have a := sumD_bd mt Z F (T + 1 - F).toNat
  unfold whole; omega
theorem whole_30 (Z : List Int) (m : Int) (h0 : 0 ≤ m) (h1 : m ≤ 2759) : whole 2 Z (fst m) (fst m + len m - 1) = 30 := by
  have := len_bd m
  unfold whole
  rw [sumD_2b Z m (fst m) h0 h1 (by omega) _ (by omega) (by omega)]; omega

/-- The reference's row ahead of a day. -/
noncomputable def rwF (mt : Int) (Z : List Int) (g : Nat → Int) (F T : Int) (n : Nat) (day : Int) (i : Nat) : Int := sumD (dw mt Z) (bnd g F T n i) (min (bnd g F T n (i + 1)) day - bnd g F T n i).toNat
theorem rw_start (mt : Int) (Z : List Int) {g : Nat → Int} {F T : Int} {n i : Nat} (hF : F ≤ T) (h : dvP g F T n) (hi : i ≤ n) : rwF mt Z g F T n F i = 0 := by
  have a := bnd_in hF h hi
  unfold rwF
  rw [show (min (bnd g F T n (i + 1)) F - bnd g F T n i).toNat = 0 by omega]; rfl
theorem rw_end (mt : Int) (Z : List Int) {g : Nat → Int} {F T : Int} {n i : Nat} (hF : F ≤ T) (h : dvP g F T n) (hi : i ≤ n) : rwF mt Z g F T n (T + 1) i = wtF mt Z g F T n i := by
  have c := bnd_le (i := i + 1) (j := n + 1) hF h (by omega) (by omega)
  rw [bnd_end] at c
  unfold rwF wtF
  rw [show min (bnd g F T n (i + 1)) (T + 1) = bnd g F T n (i + 1) by omega]
theorem rw_step (mt : Int) (Z : List Int) {g : Nat → Int} {F T : Int} {n p i : Nat} {day : Int} (hF : F ≤ T) (h : dvP g F T n) (hp : p ≤ n) (hi : i ≤ n) (h0 : bnd g F T n p ≤ day) (h1 : day < bnd g F T n (p + 1)) :
    rwF mt Z g F T n (day + 1) i = if i = p then rwF mt Z g F T n day p + dw mt Z day else rwF mt Z g F T n day i := by
  unfold rwF
  by_cases e : i = p
  · subst e
    rw [if_pos rfl, show min (bnd g F T n (i + 1)) (day + 1) = day + 1 by omega, show min (bnd g F T n (i + 1)) day = day by omega,
      show (day + 1 - bnd g F T n i).toNat = (day - bnd g F T n i).toNat + 1 by omega, sumD, show bnd g F T n i + (((day - bnd g F T n i).toNat : Nat) : Int) = day by omega]
  · rw [if_neg e]
    rcases Nat.lt_or_gt_of_ne e with c | c
    · have := bnd_le (i := i + 1) (j := p) hF h (by omega) (by omega)
      rw [show min (bnd g F T n (i + 1)) (day + 1) = min (bnd g F T n (i + 1)) day by omega]
    · have := bnd_le (i := p + 1) (j := i) hF h (by omega) (by omega)
      rw [show (min (bnd g F T n (i + 1)) (day + 1) - bnd g F T n i).toNat = (min (bnd g F T n (i + 1)) day - bnd g F T n i).toNat by omega]
theorem rw_bd (mt : Int) (Z : List Int) {g : Nat → Int} {F T : Int} {n i : Nat} {day : Int} (hF : F ≤ T) (h30 : T ≤ F + 30) (h : dvP g F T n) (hi : i ≤ n) : 0 ≤ rwF mt Z g F T n day i ∧ rwF mt Z g F T n day i ≤ 93 := by
  have a := sumD_bd mt Z (bnd g F T n i) (min (bnd g F T n (i + 1)) day - bnd g F T n i).toNat
  have b := bnd_in hF h hi
  have c := bnd_le (i := i + 1) (j := n + 1) hF h (by omega) (by omega)
  rw [bnd_end] at c
  unfold rwF; omega
/-- The first cut that divides nothing, or none. -/
theorem first_cut (g : Nat → Int) (F T : Int) (n : Nat) : ∀ k : Nat, k ≤ n → (∀ i, i < k → bnd g F T n i < g i ∧ g i ≤ T) ∨ ∃ b, b < k ∧ (∀ i, i < b → bnd g F T n i < g i ∧ g i ≤ T) ∧ (g b ≤ bnd g F T n b ∨ T < g b)
  | 0, _ => .inl fun i hi => by omega
  | k + 1, hk => by
    rcases first_cut g F T n k (by omega) with h | ⟨b, hb, h1, h2⟩
    · by_cases c : bnd g F T n k < g k ∧ g k ≤ T
      · exact .inl fun i hi => by
          rcases Nat.lt_or_ge i k with d | d
          · exact h i d
          · obtain rfl : i = k := by omega
            exact c
      · exact .inr ⟨k, by omega, h, by omega⟩
    · exact .inr ⟨b, by omega, h1, h2⟩
end Go.Proofs.YtmgglcfndhfceaaGreatDoor.Per
