/-
  Mathematics of a stable merge in place: exchanges of ranges, rotations, the search for the cut. No condition.
-/
import Derived.Sort.Statements
set_option linter.unusedVariables false
namespace Go.Proofs.YtcdilaembophlaaDoor.Mg
variable {α : Type}

def swpR (f : Nat → α) (a b n : Nat) : Nat → α := fun k => if a ≤ k ∧ k < a + n then f (k - a + b) else if b ≤ k ∧ k < b + n then f (k - b + a) else f k
def rotR (f : Nat → α) (a m b : Nat) : Nat → α := fun k => if a ≤ k ∧ k < a + (b - m) then f (k + m - a) else if a + (b - m) ≤ k ∧ k < b then f (k - (b - m)) else f k
theorem swpR_zero (f : Nat → α) (a b : Nat) : swpR f a b 0 = f := by
  funext k; unfold swpR; rw [if_neg (by omega), if_neg (by omega)]
theorem ap_eq (f : Nat → α) {i j : Nat} (h : i = j) : f i = f j := by rw [h]
theorem swpR_succ (f : Nat → α) (a b n k : Nat) (h : a + n < b) :
    swpR f a b (n + 1) k = if k = b + n then swpR f a b n (a + n) else if k = a + n then swpR f a b n (b + n) else swpR f a b n k := by
  unfold swpR
  (repeat' split) <;> first | (exfalso; omega) | (apply ap_eq; omega)
theorem rot_step1 (f : Nat → α) (a m b : Nat) (h0 : a ≤ m) (h1 : m ≤ b) (h : b - m < m - a) : rotR (swpR f a m (b - m)) (a + (b - m)) m b = rotR f a m b := by
  funext k
  unfold rotR swpR
  (repeat' split) <;> first | (exfalso; omega) | (apply ap_eq; omega)
theorem rot_step2 (f : Nat → α) (a m b : Nat) (h0 : a ≤ m) (h1 : m ≤ b) (h : m - a < b - m) : rotR (swpR f a (b - (m - a)) (m - a)) a m (b - (m - a)) = rotR f a m b := by
  funext k
  unfold rotR swpR
  (repeat' split) <;> first | (exfalso; omega) | (apply ap_eq; omega)
theorem rot_end (f : Nat → α) (a m b : Nat) (h0 : a ≤ m) (h1 : m ≤ b) (h : m - a = b - m) : swpR f a m (m - a) = rotR f a m b := by
  funext k
  unfold rotR swpR
  (repeat' split) <;> first | (exfalso; omega) | (apply ap_eq; omega)
theorem rot_none1 (f : Nat → α) (m b : Nat) : rotR f m m b = f := by
  funext k
  unfold rotR
  (repeat' split) <;> first | rfl | (exfalso; omega) | (apply ap_eq; omega)
theorem rot_none2 (f : Nat → α) (a m : Nat) (h : a ≤ m) : rotR f a m m = f := by
  funext k
  unfold rotR
  (repeat' split) <;> first | rfl | (exfalso; omega) | (apply ap_eq; omega)

/-- Ascending between a and b. -/
def Srt (prec : α → α → Prop) (f : Nat → α) (a b : Nat) : Prop := ∀ i j, a ≤ i → i < j → j < b → prec (f i) (f j)
/-- Each one left and each one right of m. -/
def Crs (R : α → α → Prop) (f : Nat → α) (a m b : Nat) : Prop := ∀ i j, a ≤ i → i < m → m ≤ j → j < b → R (f i) (f j)
/-- What is asked of an order and of the comparison of a left one with a right one. -/
structure Ord (prec R : α → α → Prop) (lt : α → α → Bool) : Prop where
  trans : ∀ x y z, prec x y → prec y z → prec x z
  yes : ∀ x y, R x y → lt y x = false → prec x y
  no : ∀ x y, R x y → lt y x = true → prec y x
/-- g is f, put in order between a and b. -/
structure Mrg (prec : α → α → Prop) (f g : Nat → α) (a b : Nat) : Prop where
  out : ∀ k, k < a ∨ b ≤ k → g k = f k
  from_ : ∀ k, a ≤ k → k < b → ∃ k', a ≤ k' ∧ k' < b ∧ g k = f k'
  srt : Srt prec g a b

section
variable {prec R : α → α → Prop} {lt : α → α → Bool} {f : Nat → α} {a m b s e : Nat}
theorem Srt.le (O : Ord prec R lt) (h : Srt prec f a b) {i j : Nat} {x : α} (hi : a ≤ i) (hij : i ≤ j) (hj : j < b) (hx : prec (f j) x) : prec (f i) x := by
  rcases Nat.lt_or_ge i j with h' | h'
  · exact O.trans _ _ _ (h i j hi h' hj) hx
  · obtain rfl : i = j := by omega
    exact hx
theorem Srt.ge (O : Ord prec R lt) (h : Srt prec f a b) {i j : Nat} {x : α} (hi : a ≤ i) (hij : i ≤ j) (hj : j < b) (hx : prec x (f i)) : prec x (f j) := by
  rcases Nat.lt_or_ge i j with h' | h'
  · exact O.trans _ _ _ hx (h i j hi h' hj)
  · obtain rfl : i = j := by omega
    exact hx
theorem rot_from (h0 : a ≤ s) (h1 : s ≤ m) (h2 : m ≤ e) (h3 : e ≤ b) {k : Nat} (hk : a ≤ k) (hk' : k < b) : ∃ k', a ≤ k' ∧ k' < b ∧ rotR f s m e k = f k' := by
  unfold rotR
  (repeat' split)
  · exact ⟨k + m - s, by omega, by omega, rfl⟩
  · exact ⟨k - (e - m), by omega, by omega, rfl⟩
  · exact ⟨k, hk, hk', rfl⟩
theorem rot_out (h0 : a ≤ s) (h2 : m ≤ e) (h1 : s ≤ m) (h3 : e ≤ b) {k : Nat} (hk : k < a ∨ b ≤ k) : rotR f s m e k = f k := by
  unfold rotR
  rw [if_neg (by omega), if_neg (by omega)]
/-- A rotation that puts everything in order. -/
theorem rot_mrg (h0 : a ≤ s) (h1 : s ≤ m) (h2 : m ≤ e) (h3 : e ≤ b) (hA : Srt prec f a m) (hB : Srt prec f m b) (x1 : ∀ i j, a ≤ i → i < s → m ≤ j → j < b → prec (f i) (f j))
    (x2 : ∀ i j, m ≤ i → i < e → s ≤ j → j < m → prec (f i) (f j)) (x3 : ∀ i j, s ≤ i → i < m → e ≤ j → j < b → prec (f i) (f j)) : Mrg prec f (rotR f s m e) a b := by
  refine ⟨fun k hk => rot_out h0 h2 h1 h3 hk, fun k hk hk' => rot_from h0 h1 h2 h3 hk hk', fun i j hi hij hj => ?_⟩
  unfold rotR
  (repeat' split)
  all_goals first
    | (exfalso; omega)
    | exact hA _ _ (by omega) (by omega) (by omega)
    | exact hB _ _ (by omega) (by omega) (by omega)
    | exact x1 _ _ (by omega) (by omega) (by omega) (by omega)
    | exact x2 _ _ (by omega) (by omega) (by omega) (by omega)
    | exact x3 _ _ (by omega) (by omega) (by omega) (by omega)
    | (rcases Nat.lt_or_ge i m with hm | hm <;> rcases Nat.lt_or_ge j m with hm' | hm' <;> first
        | (exfalso; omega)
        | exact hA _ _ (by omega) (by omega) (by omega)
        | exact hB _ _ (by omega) (by omega) (by omega)
        | exact x1 _ _ (by omega) (by omega) (by omega) (by omega)
        | exact x2 _ _ (by omega) (by omega) (by omega) (by omega)
        | exact x3 _ _ (by omega) (by omega) (by omega) (by omega))

/-- The first base case: f a goes behind those right of it that are less. -/
theorem mrg_left (O : Ord prec R lt) (hm : m = a + 1) (h2 : m ≤ e) (h3 : e ≤ b) (hB : Srt prec f m b) (hlo : ∀ j, m ≤ j → j < e → prec (f j) (f a)) (hhi : ∀ j, e ≤ j → j < b → prec (f a) (f j)) : Mrg prec f (rotR f a m e) a b := by
  refine rot_mrg (Nat.le_refl _) (by omega) h2 h3 (fun i j _ _ _ => by omega) hB (fun i j _ _ _ _ => by omega) (fun i j p q r t => ?_) (fun i j p q r t => ?_)
  · obtain rfl : j = a := by omega
    exact hlo i p q
  · obtain rfl : i = a := by omega
    exact hhi j r t
theorem mrg_right (O : Ord prec R lt) (hb : b = m + 1) (h0 : a ≤ s) (h1 : s ≤ m) (hA : Srt prec f a m) (hlo : ∀ j, a ≤ j → j < s → prec (f j) (f m)) (hhi : ∀ j, s ≤ j → j < m → prec (f m) (f j)) : Mrg prec f (rotR f s m b) a b := by
  refine rot_mrg h0 h1 (by omega) (Nat.le_refl _) hA (fun i j _ _ _ => by omega) (fun i j p q r t => ?_) (fun i j p q r t => ?_) (fun i j _ _ _ _ => by omega)
  · obtain rfl : j = m := by omega
    exact hlo i p q
  · obtain rfl : i = m := by omega
    exact hhi j r t

/-- What the search finds. -/
structure Cut (prec : α → α → Prop) (f : Nat → α) (p s0 s r r0 : Nat) : Prop where
  lo : ∀ c, s0 ≤ c → c < s → prec (f c) (f (p - c))
  hi : ∀ c, r ≤ c → c < r0 → prec (f (p - c)) (f c)
theorem Cut.start {p s0 r0 : Nat} : Cut prec f p s0 s0 r0 r0 := ⟨fun c _ _ => by omega, fun c _ _ => by omega⟩
theorem Cut.up (O : Ord prec R lt) {p s0 r r0 c : Nat} (h : Cut prec f p s0 s r r0) (hA : Srt prec f a m) (hB : Srt prec f m b) (hx : Crs R f a m b) (ha : a ≤ s0) (hc0 : s0 ≤ c) (hc : c < r0) (hr : r0 ≤ m) (hp : m + r0 ≤ p + 1) (hp' : p - s0 < b) (ht : lt (f (p - c)) (f c) = false) :
    Cut prec f p s0 (c + 1) r r0 := by
  refine ⟨fun i h1 h2 => ?_, h.hi⟩
  have e := O.yes _ _ (hx c (p - c) (by omega) (by omega) (by omega) (by omega)) ht
  exact hA.le O (by omega) (by omega : i ≤ c) (by omega) (hB.ge O (by omega) (by omega : p - c ≤ p - i) (by omega) e)
theorem Cut.down (O : Ord prec R lt) {p s0 r r0 c : Nat} (h : Cut prec f p s0 s r r0) (hA : Srt prec f a m) (hB : Srt prec f m b) (hx : Crs R f a m b) (ha : a ≤ s0) (hc0 : s0 ≤ c) (hc : c < r0) (hr : r0 ≤ m) (hp : m + r0 ≤ p + 1) (hp' : p - s0 < b) (ht : lt (f (p - c)) (f c) = true) :
    Cut prec f p s0 s c r0 := by
  refine ⟨h.lo, fun i h1 h2 => ?_⟩
  have e := O.no _ _ (hx c (p - c) (by omega) (by omega) (by omega) (by omega)) ht
  exact hB.le O (by omega) (by omega : p - i ≤ p - c) (by omega) (hA.ge O (by omega) (by omega : c ≤ i) (by omega) e)

theorem cut_x1 (O : Ord prec R lt) {s0 r0 mid : Nat} (hA : Srt prec f a m) (hB : Srt prec f m b) (ha : a ≤ s0) (h0 : s0 ≤ s) (h1 : s ≤ r0) (h2 : r0 ≤ m) (h3 : r0 ≤ mid) (hC : Cut prec f (mid + m - 1) s0 s s r0) (hs : s0 = a ∨ s0 + b = mid + m)
    {i j : Nat} (p : a ≤ i) (q : i < s) (r : mid + m - s ≤ j) (t : j < b) : prec (f i) (f j) := by
  rcases Nat.lt_or_ge s0 s with h | h
  · have e := hC.lo (s - 1) (by omega) (by omega)
    have e2 : mid + m - 1 - (s - 1) = mid + m - s := by omega
    rw [e2] at e
    exact hA.le O p (by omega : i ≤ s - 1) (by omega) (hB.ge O (by omega) r t e)
  · exfalso; omega
theorem cut_x2 (O : Ord prec R lt) {s0 r0 mid : Nat} (hA : Srt prec f a m) (hB : Srt prec f m b) (ha : a ≤ s0) (h0 : s0 ≤ s) (h1 : s ≤ r0) (h2 : r0 ≤ m) (h3 : r0 ≤ mid) (hC : Cut prec f (mid + m - 1) s0 s s r0) (hs : r0 = m ∨ r0 = mid) (hb : mid + m - s ≤ b)
    {i j : Nat} (p : m ≤ i) (q : i < mid + m - s) (r : s ≤ j) (t : j < m) : prec (f i) (f j) := by
  rcases Nat.lt_or_ge s r0 with h | h
  · have e := hC.hi s (by omega) h
    exact hB.le O p (by omega : i ≤ mid + m - 1 - s) (by omega) (hA.ge O (by omega) r t e)
  · exfalso; omega
theorem srt_congr {g : Nat → α} (h : Srt prec f a b) (e : ∀ k, a ≤ k → k < b → g k = f k) : Srt prec g a b := fun i j p q r => by rw [e i p (by omega), e j (by omega) r]; exact h i j p q r
theorem crs_congr {g : Nat → α} (h : Crs R f a m b) (e : ∀ k, a ≤ k → k < b → g k = f k) : Crs R g a m b := fun i j p q r t => by rw [e i p (by omega), e j (by omega) t]; exact h i j p q r t
/-- The pieces behind the rotation. -/
structure Pcs (prec R : α → α → Prop) (f g : Nat → α) (a s mid e b : Nat) : Prop where
  s1 : Srt prec g a s
  s2 : Srt prec g s mid
  x1 : Crs R g a s mid
  s3 : Srt prec g mid e
  s4 : Srt prec g e b
  x2 : Crs R g mid e b
  z : ∀ i j, a ≤ i → i < mid → mid ≤ j → j < b → prec (g i) (g j)
  out : ∀ k, k < a ∨ b ≤ k → g k = f k
  from_ : ∀ k, a ≤ k → k < b → ∃ k', a ≤ k' ∧ k' < b ∧ g k = f k'
theorem pcs {mid : Nat} (hA : Srt prec f a m) (hB : Srt prec f m b) (hx : Crs R f a m b) (ha : a ≤ s) (hsm : s ≤ m) (hsd : s ≤ mid) (he : mid + m - s ≤ b)
    (x1 : ∀ i j, a ≤ i → i < s → mid + m - s ≤ j → j < b → prec (f i) (f j)) (x2 : ∀ i j, m ≤ i → i < mid + m - s → s ≤ j → j < m → prec (f i) (f j)) : Pcs prec R f (rotR f s m (mid + m - s)) a s mid (mid + m - s) b := by
  have r1 : ∀ k, k < s → rotR f s m (mid + m - s) k = f k := fun k hk => by unfold rotR; rw [if_neg (by omega), if_neg (by omega)]
  have r2 : ∀ k, s ≤ k → k < mid → rotR f s m (mid + m - s) k = f (k + m - s) := fun k hk hk' => by unfold rotR; rw [if_pos (by omega)]
  have r3 : ∀ k, mid ≤ k → k < mid + m - s → rotR f s m (mid + m - s) k = f (k - (mid - s)) := fun k hk hk' => by unfold rotR; rw [if_neg (by omega), if_pos (by omega)]; apply ap_eq; omega
  have r4 : ∀ k, mid + m - s ≤ k → rotR f s m (mid + m - s) k = f k := fun k hk => by unfold rotR; rw [if_neg (by omega), if_neg (by omega)]
  refine ⟨fun i j p q r => ?_, fun i j p q r => ?_, fun i j p q r t => ?_, fun i j p q r => ?_, fun i j p q r => ?_, fun i j p q r t => ?_, fun i j p q r t => ?_, fun k hk => rot_out ha (by omega) hsm he hk, fun k hk hk' => rot_from ha hsm (by omega) he hk hk'⟩
  · rw [r1 i (by omega), r1 j (by omega)]; exact hA _ _ (by omega) q (by omega)
  · rw [r2 i (by omega) (by omega), r2 j (by omega) (by omega)]; exact hB _ _ (by omega) (by omega) (by omega)
  · rw [r1 i (by omega), r2 j (by omega) (by omega)]; exact hx _ _ (by omega) (by omega) (by omega) (by omega)
  · rw [r3 i (by omega) (by omega), r3 j (by omega) (by omega)]; exact hA _ _ (by omega) (by omega) (by omega)
  · rw [r4 i (by omega), r4 j (by omega)]; exact hB _ _ (by omega) q (by omega)
  · rw [r3 i (by omega) (by omega), r4 j (by omega)]; exact hx _ _ (by omega) (by omega) (by omega) (by omega)
  · rcases Nat.lt_or_ge i s with h | h <;> rcases Nat.lt_or_ge j (mid + m - s) with h' | h'
    · rw [r1 i h, r3 j (by omega) h']; exact hA _ _ (by omega) (by omega) (by omega)
    · rw [r1 i h, r4 j h']; exact x1 _ _ (by omega) h h' t
    · rw [r2 i h (by omega), r3 j (by omega) h']; exact x2 _ _ (by omega) (by omega) (by omega) (by omega)
    · rw [r2 i h (by omega), r4 j h']; exact hB _ _ (by omega) (by omega) (by omega)
theorem Pcs.skip1 {g : Nat → α} {mid : Nat} (h : Pcs prec R f g a s mid e b) (hs : s ≤ a ∨ mid ≤ s) (ha : a ≤ s) (hm : s ≤ mid) : Mrg prec g g a mid :=
  ⟨fun _ _ => rfl, fun k p q => ⟨k, p, q, rfl⟩, fun i j p q r => by
    rcases hs with hs | hs
    · exact h.s2 i j (by omega) q r
    · exact h.s1 i j p q (by omega)⟩
theorem Pcs.skip2 {g g1 : Nat → α} {mid : Nat} (h : Pcs prec R f g a s mid e b) (h1 : Mrg prec g g1 a mid) (hs : e ≤ mid ∨ b ≤ e) (ha : mid ≤ e) (hm : e ≤ b) : Mrg prec g1 g1 mid b :=
  ⟨fun _ _ => rfl, fun k p q => ⟨k, p, q, rfl⟩, fun i j p q r => by
    rw [h1.out i (.inr p), h1.out j (.inr (by omega))]
    rcases hs with hs | hs
    · exact h.s4 i j (by omega) q r
    · exact h.s3 i j p q (by omega)⟩
theorem Pcs.whole {g g1 g2 : Nat → α} {mid : Nat} (h : Pcs prec R f g a s mid e b) (h1 : Mrg prec g g1 a mid) (h2 : Mrg prec g1 g2 mid b) (ha : a ≤ mid) (hb : mid ≤ b) : Mrg prec f g2 a b := by
  refine ⟨fun k hk => ?_, fun k p q => ?_, fun i j p q r => ?_⟩
  · rw [h2.out k (by omega), h1.out k (by omega)]; exact h.out k hk
  · rcases Nat.lt_or_ge k mid with hk | hk
    · obtain ⟨k', c1, c2, c3⟩ := h1.from_ k p hk
      obtain ⟨k2, d1, d2, d3⟩ := h.from_ k' c1 (by omega)
      exact ⟨k2, d1, d2, by rw [h2.out k (.inl hk), c3, d3]⟩
    · obtain ⟨k', c1, c2, c3⟩ := h2.from_ k hk q
      obtain ⟨k2, d1, d2, d3⟩ := h.from_ k' (by omega) c2
      exact ⟨k2, d1, d2, by rw [c3, h1.out k' (.inr c1), d3]⟩
  · rcases Nat.lt_or_ge j mid with hj | hj
    · rw [h2.out i (.inl (by omega)), h2.out j (.inl hj)]
      exact h1.srt i j p q hj
    · rcases Nat.lt_or_ge i mid with hi | hi
      · obtain ⟨i', c1, c2, c3⟩ := h1.from_ i p hi
        obtain ⟨j', d1, d2, d3⟩ := h2.from_ j hj r
        rw [h2.out i (.inl hi), c3, d3, h1.out j' (.inr d1)]
        exact h.z i' j' c1 c2 d1 d2
      · exact h2.srt i j hi q r
end
end Go.Proofs.YtcdilaembophlaaDoor.Mg
