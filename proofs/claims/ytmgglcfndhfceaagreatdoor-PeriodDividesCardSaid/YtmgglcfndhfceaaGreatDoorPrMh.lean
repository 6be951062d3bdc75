/-
  Several texts in one; what each shows, and its conditions, stand ahead of it. No condition beside theirs.
-/
import Derived.Sort.Statements
import Derived.Test.YtmgglcfndhfceaaGreatDoorRows
import Derived.Shelf.SlSortCmp.Kit1
import Derived.BigRegion
import Derived.Sort.LotA
import Derived.Deep.LoopGhost
import Derived.Deep.QuietTactic
import Derived.Lib.Hide
import Derived.Outline
import Derived.Shelf.SlSortCmp.QuietGrown
import Derived.Deep.CutRange
import Derived.Deep.DeepCutAuto
import Derived.Sort.WalkB2
/- Mathematics of a stable merge in place: exchanges of ranges, rotations, the search for the cut. No condition. -/
set_option linter.unusedVariables false
namespace Go.Proofs.YtmgglcfndhfceaaGreatDoor.Mg
variable {α : Type}

def swpR (f : Nat → α) (a b n : Nat) : Nat → α := fun k => if a ≤ k ∧ k < a + n then f (k - a + b) else if b ≤ k ∧ k < b + n then f (k - b + a) else f k
def rotR (f : Nat → α) (a m b : Nat) : Nat → α := fun k => if a ≤ k ∧ k < a + (b - m) then f (k + m - a) else if a + (b - m) ≤ k ∧ k < b then f (k - (b - m)) else f k
theorem swpR_zero (f : Nat → α) (a b : Nat) : swpR f a b 0 = f := by
  funext k; unfold swpR; rw [if_neg (by omega), if_neg (by omega)]
theorem ap_eq (f : Nat → α) {i j : Nat} (h : i = j) : f i = f j := by rw [h]
theorem swpR_succ (f : Nat → α) (a b n k : Nat) (h : a + n < b) :
    swpR f a b (n + 1) k = if k = b + n then swpR f a b n (a + n) else if k = a + n then swpR f a b n (b + n) else swpR f a b n k := by
  unfold swpR
  (repeat' split) <;> first | (exfalso; omega) | (apply ap_eq; omega)
theorem rot_step1 (f : Nat → α) (a m b : Nat) (h0 : a ≤ m) (h1 : m ≤ b) (h : b - m < m - a) : rotR (swpR f a m (b - m)) (a + (b - m)) m b = rotR f a m b := by
  funext k
  unfold rotR swpR
  (repeat' split) <;> first | (exfalso; omega) | (apply ap_eq; omega)
theorem rot_step2 (f : Nat → α) (a m b : Nat) (h0 : a ≤ m) (h1 : m ≤ b) (h : m - a < b - m) : rotR (swpR f a (b - (m - a)) (m - a)) a m (b - (m - a)) = rotR f a m b := by
  funext k
  unfold rotR swpR
  (repeat' split) <;> first | (exfalso; omega) | (apply ap_eq; omega)
theorem rot_end (f : Nat → α) (a m b : Nat) (h0 : a ≤ m) (h1 : m ≤ b) (h : m - a = b - m) : swpR f a m (m - a) = rotR f a m b := by
  funext k
  unfold rotR swpR
  (repeat' split) <;> first | (exfalso; omega) | (apply ap_eq; omega)
theorem rot_none1 (f : Nat → α) (m b : Nat) : rotR f m m b = f := by
  funext k
  unfold rotR
  (repeat' split) <;> first | rfl | (exfalso; omega) | (apply ap_eq; omega)
theorem rot_none2 (f : Nat → α) (a m : Nat) (h : a ≤ m) : rotR f a m m = f := by
  funext k
  unfold rotR
  (repeat' split) <;> first | rfl | (exfalso; omega) | (apply ap_eq; omega)

/-- Ascending between a and b. -/
def Srt (prec : α → α → Prop) (f : Nat → α) (a b : Nat) : Prop := ∀ i j, a ≤ i → i < j → j < b → prec (f i) (f j)
/-- Each one left and each one right of m. -/
def Crs (R : α → α → Prop) (f : Nat → α) (a m b : Nat) : Prop := ∀ i j, a ≤ i → i < m → m ≤ j → j < b → R (f i) (f j)
/-- What is asked of an order and of the comparison of a left one with a right one. -/
structure Ord (prec R : α → α → Prop) (lt : α → α → Bool) : Prop where
  trans : ∀ x y z, prec x y → prec y z → prec x z
  yes : ∀ x y, R x y → lt y x = false → prec x y
  no : ∀ x y, R x y → lt y x = true → prec y x
/-- g is f, put in order between a and b. -/
structure Mrg (prec : α → α → Prop) (f g : Nat → α) (a b : Nat) : Prop where
  out : ∀ k, k < a ∨ b ≤ k → g k = f k
  from_ : ∀ k, a ≤ k → k < b → ∃ k', a ≤ k' ∧ k' < b ∧ g k = f k'
  srt : Srt prec g a b

section
variable {prec R : α → α → Prop} {lt : α → α → Bool} {f : Nat → α} {a m b s e : Nat}
theorem Srt.le (O : Ord prec R lt) (h : Srt prec f a b) {i j : Nat} {x : α} (hi : a ≤ i) (hij : i ≤ j) (hj : j < b) (hx : prec (f j) x) : prec (f i) x := by
  rcases Nat.lt_or_ge i j with h' | h'
  · exact O.trans _ _ _ (h i j hi h' hj) hx
  · obtain rfl : i = j := by omega
    exact hx
theorem Srt.ge (O : Ord prec R lt) (h : Srt prec f a b) {i j : Nat} {x : α} (hi : a ≤ i) (hij : i ≤ j) (hj : j < b) (hx : prec x (f i)) : prec x (f j) := by
  rcases Nat.lt_or_ge i j with h' | h'
  · exact O.trans _ _ _ hx (h i j hi h' hj)
  · obtain rfl : i = j := by omega
    exact hx
theorem rot_from (h0 : a ≤ s) (h1 : s ≤ m) (h2 : m ≤ e) (h3 : e ≤ b) {k : Nat} (hk : a ≤ k) (hk' : k < b) : ∃ k', a ≤ k' ∧ k' < b ∧ rotR f s m e k = f k' := by
  unfold rotR
  (repeat' split)
  · exact ⟨k + m - s, by omega, by omega, rfl⟩
  · exact ⟨k - (e - m), by omega, by omega, rfl⟩
  · exact ⟨k, hk, hk', rfl⟩
theorem rot_out (h0 : a ≤ s) (h2 : m ≤ e) (h1 : s ≤ m) (h3 : e ≤ b) {k : Nat} (hk : k < a ∨ b ≤ k) : rotR f s m e k = f k := by
  unfold rotR
  rw [if_neg (by omega), if_neg (by omega)]
/-- A rotation that puts everything in order. -/
theorem rot_mrg (h0 : a ≤ s) (h1 : s ≤ m) (h2 : m ≤ e) (h3 : e ≤ b) (hA : Srt prec f a m) (hB : Srt prec f m b) (x1 : ∀ i j, a ≤ i → i < s → m ≤ j → j < b → prec (f i) (f j))
    (x2 : ∀ i j, m ≤ i → i < e → s ≤ j → j < m → prec (f i) (f j)) (x3 : ∀ i j, s ≤ i → i < m → e ≤ j → j < b → prec (f i) (f j)) : Mrg prec f (rotR f s m e) a b := by
  refine ⟨fun k hk => rot_out h0 h2 h1 h3 hk, fun k hk hk' => rot_from h0 h1 h2 h3 hk hk', fun i j hi hij hj => ?_⟩
  unfold rotR
  (repeat' split)
  all_goals first
    | (exfalso; omega)
    | exact hA _ _ (by omega) (by omega) (by omega)
    | exact hB _ _ (by omega) (by omega) (by omega)
    | exact x1 _ _ (by omega) (by omega) (by omega) (by omega)
    | exact x2 _ _ (by omega) (by omega) (by omega) (by omega)
    | exact x3 _ _ (by omega) (by omega) (by omega) (by omega)
    | (rcases Nat.lt_or_ge i m with hm | hm <;> rcases Nat.lt_or_ge j m with hm' | hm' <;> first
        | (exfalso; omega)
        | exact hA _ _ (by omega) (by omega) (by omega)
        | exact hB _ _ (by omega) (by omega) (by omega)
        | exact x1 _ _ (by omega) (by omega) (by omega) (by omega)
        | exact x2 _ _ (by omega) (by omega) (by omega) (by omega)
        | exact x3 _ _ (by omega) (by omega) (by omega) (by omega))

/-- The first base case: f a goes behind those right of it that are less. -/
theorem mrg_left (O : Ord prec R lt) (hm : m = a + 1) (h2 : m ≤ e) (h3 : e ≤ b) (hB : Srt prec f m b) (hlo : ∀ j, m ≤ j → j < e → prec (f j) (f a)) (hhi : ∀ j, e ≤ j → j < b → prec (f a) (f j)) : Mrg prec f (rotR f a m e) a b := by
  refine rot_mrg (Nat.le_refl _) (by omega) h2 h3 (fun i j _ _ _ => by omega) hB (fun i j _ _ _ _ => by omega) (fun i j p q r t => ?_) (fun i j p q r t => ?_)
  · obtain rfl : j = a := by omega
    exact hlo i p q
  · obtain rfl : i = a := by omega
    exact hhi j r t
theorem mrg_right (O : Ord prec R lt) (hb : b = m + 1) (h0 : a ≤ s) (h1 : s ≤ m) (hA : Srt prec f a m) (hlo : ∀ j, a ≤ j → j < s → prec (f j) (f m)) (hhi : ∀ j, s ≤ j → j < m → prec (f m) (f j)) : Mrg prec f (rotR f s m b) a b := by
  refine rot_mrg h0 h1 (by omega) (Nat.le_refl _) hA (fun i j _ _ _ => by omega) (fun i j p q r t => ?_) (fun i j p q r t => ?_) (fun i j _ _ _ _ => by omega)
  · obtain rfl : j = m := by omega
    exact hlo i p q
  · obtain rfl : i = m := by omega
    exact hhi j r t

/-- What the search finds. -/
structure Cut (prec : α → α → Prop) (f : Nat → α) (p s0 s r r0 : Nat) : Prop where
  lo : ∀ c, s0 ≤ c → c < s → prec (f c) (f (p - c))
  hi : ∀ c, r ≤ c → c < r0 → prec (f (p - c)) (f c)
theorem Cut.start {p s0 r0 : Nat} : Cut prec f p s0 s0 r0 r0 := ⟨fun c _ _ => by omega, fun c _ _ => by omega⟩
theorem Cut.up (O : Ord prec R lt) {p s0 r r0 c : Nat} (h : Cut prec f p s0 s r r0) (hA : Srt prec f a m) (hB : Srt prec f m b) (hx : Crs R f a m b) (ha : a ≤ s0) (hc0 : s0 ≤ c) (hc : c < r0) (hr : r0 ≤ m) (hp : m + r0 ≤ p + 1) (hp' : p - s0 < b) (ht : lt (f (p - c)) (f c) = false) :
    Cut prec f p s0 (c + 1) r r0 := by
  refine ⟨fun i h1 h2 => ?_, h.hi⟩
  have e := O.yes _ _ (hx c (p - c) (by omega) (by omega) (by omega) (by omega)) ht
  exact hA.le O (by omega) (by omega : i ≤ c) (by omega) (hB.ge O (by omega) (by omega : p - c ≤ p - i) (by omega) e)
theorem Cut.down (O : Ord prec R lt) {p s0 r r0 c : Nat} (h : Cut prec f p s0 s r r0) (hA : Srt prec f a m) (hB : Srt prec f m b) (hx : Crs R f a m b) (ha : a ≤ s0) (hc0 : s0 ≤ c) (hc : c < r0) (hr : r0 ≤ m) (hp : m + r0 ≤ p + 1) (hp' : p - s0 < b) (ht : lt (f (p - c)) (f c) = true) :
    Cut prec f p s0 s c r0 := by
  refine ⟨h.lo, fun i h1 h2 => ?_⟩
  have e := O.no _ _ (hx c (p - c) (by omega) (by omega) (by omega) (by omega)) ht
  exact hB.le O (by omega) (by omega : p - i ≤ p - c) (by omega) (hA.ge O (by omega) (by omega : c ≤ i) (by omega) e)

theorem cut_x1 (O : Ord prec R lt) {s0 r0 mid : Nat} (hA : Srt prec f a m) (hB : Srt prec f m b) (ha : a ≤ s0) (h0 : s0 ≤ s) (h1 : s ≤ r0) (h2 : r0 ≤ m) (h3 : r0 ≤ mid) (hC : Cut prec f (mid + m - 1) s0 s s r0) (hs : s0 = a ∨ s0 + b = mid + m)
    {i j : Nat} (p : a ≤ i) (q : i < s) (r : mid + m - s ≤ j) (t : j < b) : prec (f i) (f j) := by
  rcases Nat.lt_or_ge s0 s with h | h
  · have e := hC.lo (s - 1) (by omega) (by omega)
    have e2 : mid + m - 1 - (s - 1) = mid + m - s := by omega
    rw [e2] at e
    exact hA.le O p (by omega : i ≤ s - 1) (by omega) (hB.ge O (by omega) r t e)
  · exfalso; omega
theorem cut_x2 (O : Ord prec R lt) {s0 r0 mid : Nat} (hA : Srt prec f a m) (hB : Srt prec f m b) (ha : a ≤ s0) (h0 : s0 ≤ s) (h1 : s ≤ r0) (h2 : r0 ≤ m) (h3 : r0 ≤ mid) (hC : Cut prec f (mid + m - 1) s0 s s r0) (hs : r0 = m ∨ r0 = mid) (hb : mid + m - s ≤ b)
    {i j : Nat} (p : m ≤ i) (q : i < mid + m - s) (r : s ≤ j) (t : j < m) : prec (f i) (f j) := by
  rcases Nat.lt_or_ge s r0 with h | h
  · have e := hC.hi s (by omega) h
    exact hB.le O p (by omega : i ≤ mid + m - 1 - s) (by omega) (hA.ge O (by omega) r t e)
  · exfalso; omega
theorem srt_congr {g : Nat → α} (h : Srt prec f a b) (e : ∀ k, a ≤ k → k < b → g k = f k) : Srt prec g a b := fun i j p q r => by rw [e i p (by omega), e j (by omega) r]; exact h i j p q r
theorem crs_congr {g : Nat → α} (h : Crs R f a m b) (e : ∀ k, a ≤ k → k < b → g k = f k) : Crs R g a m b := fun i j p q r t => by rw [e i p (by omega), e j (by omega) t]; exact h i j p q r t
/-- The pieces behind the rotation. -/
structure Pcs (prec R : α → α → Prop) (f g : Nat → α) (a s mid e b : Nat) : Prop where
  s1 : Srt prec g a s
  s2 : Srt prec g s mid
  x1 : Crs R g a s mid
  s3 : Srt prec g mid e
  s4 : Srt prec g e b
  x2 : Crs R g mid e b
  z : ∀ i j, a ≤ i → i < mid → mid ≤ j → j < b → prec (g i) (g j)
  out : ∀ k, k < a ∨ b ≤ k → g k = f k
  from_ : ∀ k, a ≤ k → k < b → ∃ k', a ≤ k' ∧ k' < b ∧ g k = f k'
theorem pcs {mid : Nat} (hA : Srt prec f a m) (hB : Srt prec f m b) (hx : Crs R f a m b) (ha : a ≤ s) (hsm : s ≤ m) (hsd : s ≤ mid) (he : mid + m - s ≤ b)
    (x1 : ∀ i j, a ≤ i → i < s → mid + m - s ≤ j → j < b → prec (f i) (f j)) (x2 : ∀ i j, m ≤ i → i < mid + m - s → s ≤ j → j < m → prec (f i) (f j)) : Pcs prec R f (rotR f s m (mid + m - s)) a s mid (mid + m - s) b := by
  have r1 : ∀ k, k < s → rotR f s m (mid + m - s) k = f k := fun k hk => by unfold rotR; rw [if_neg (by omega), if_neg (by omega)]
  have r2 : ∀ k, s ≤ k → k < mid → rotR f s m (mid + m - s) k = f (k + m - s) := fun k hk hk' => by unfold rotR; rw [if_pos (by omega)]
  have r3 : ∀ k, mid ≤ k → k < mid + m - s → rotR f s m (mid + m - s) k = f (k - (mid - s)) := fun k hk hk' => by unfold rotR; rw [if_neg (by omega), if_pos (by omega)]; apply ap_eq; omega
  have r4 : ∀ k, mid + m - s ≤ k → rotR f s m (mid + m - s) k = f k := fun k hk => by unfold rotR; rw [if_neg (by omega), if_neg (by omega)]
  refine ⟨fun i j p q r => ?_, fun i j p q r => ?_, fun i j p q r t => ?_, fun i j p q r => ?_, fun i j p q r => ?_, fun i j p q r t => ?_, fun i j p q r t => ?_, fun k hk => rot_out ha (by omega) hsm he hk, fun k hk hk' => rot_from ha hsm (by omega) he hk hk'⟩
  · rw [r1 i (by omega), r1 j (by omega)]; exact hA _ _ (by omega) q (by omega)
  · rw [r2 i (by omega) (by omega), r2 j (by omega) (by omega)]; exact hB _ _ (by omega) (by omega) (by omega)
  · rw [r1 i (by omega), r2 j (by omega) (by omega)]; exact hx _ _ (by omega) (by omega) (by omega) (by omega)
  · rw [r3 i (by omega) (by omega), r3 j (by omega) (by omega)]; exact hA _ _ (by omega) (by omega) (by omega)
  · rw [r4 i (by omega), r4 j (by omega)]; exact hB _ _ (by omega) q (by omega)
  · rw [r3 i (by omega) (by omega), r4 j (by omega)]; exact hx _ _ (by omega) (by omega) (by omega) (by omega)
  · rcases Nat.lt_or_ge i s with h | h <;> rcases Nat.lt_or_ge j (mid + m - s) with h' | h'
    · rw [r1 i h, r3 j (by omega) h']; exact hA _ _ (by omega) (by omega) (by omega)
    · rw [r1 i h, r4 j h']; exact x1 _ _ (by omega) h h' t
    · rw [r2 i h (by omega), r3 j (by omega) h']; exact x2 _ _ (by omega) (by omega) (by omega) (by omega)
    · rw [r2 i h (by omega), r4 j h']; exact hB _ _ (by omega) (by omega) (by omega)
theorem Pcs.skip1 {g : Nat → α} {mid : Nat} (h : Pcs prec R f g a s mid e b) (hs : s ≤ a ∨ mid ≤ s) (ha : a ≤ s) (hm : s ≤ mid) : Mrg prec g g a mid :=
  ⟨fun _ _ => rfl, fun k p q => ⟨k, p, q, rfl⟩, fun i j p q r => by
    rcases hs with hs | hs
    · exact h.s2 i j (by omega) q r
    · exact h.s1 i j p q (by omega)⟩
theorem Pcs.skip2 {g g1 : Nat → α} {mid : Nat} (h : Pcs prec R f g a s mid e b) (h1 : Mrg prec g g1 a mid) (hs : e ≤ mid ∨ b ≤ e) (ha : mid ≤ e) (hm : e ≤ b) : Mrg prec g1 g1 mid b :=
  ⟨fun _ _ => rfl, fun k p q => ⟨k, p, q, rfl⟩, fun i j p q r => by
    rw [h1.out i (.inr p), h1.out j (.inr (by omega))]
    rcases hs with hs | hs
    · exact h.s4 i j (by omega) q r
    · exact h.s3 i j p q (by omega)⟩
theorem Pcs.whole {g g1 g2 : Nat → α} {mid : Nat} (h : Pcs prec R f g a s mid e b) (h1 : Mrg prec g g1 a mid) (h2 : Mrg prec g1 g2 mid b) (ha : a ≤ mid) (hb : mid ≤ b) : Mrg prec f g2 a b := by
  refine ⟨fun k hk => ?_, fun k p q => ?_, fun i j p q r => ?_⟩
  · rw [h2.out k (by omega), h1.out k (by omega)]; exact h.out k hk
  · rcases Nat.lt_or_ge k mid with hk | hk
    · obtain ⟨k', c1, c2, c3⟩ := h1.from_ k p hk
      obtain ⟨k2, d1, d2, d3⟩ := h.from_ k' c1 (by omega)
      exact ⟨k2, d1, d2, by rw [h2.out k (.inl hk), c3, d3]⟩
    · obtain ⟨k', c1, c2, c3⟩ := h2.from_ k hk q
      obtain ⟨k2, d1, d2, d3⟩ := h.from_ k' (by omega) c2
      exact ⟨k2, d1, d2, by rw [c3, h1.out k' (.inr c1), d3]⟩
  · rcases Nat.lt_or_ge j mid with hj | hj
    · rw [h2.out i (.inl (by omega)), h2.out j (.inl hj)]
      exact h1.srt i j p q hj
    · rcases Nat.lt_or_ge i mid with hi | hi
      · obtain ⟨i', c1, c2, c3⟩ := h1.from_ i p hi
        obtain ⟨j', d1, d2, d3⟩ := h2.from_ j hj r
        rw [h2.out i (.inl hi), c3, d3, h1.out j' (.inr d1)]
        exact h.z i' j' c1 c2 d1 d2
      · exact h2.srt i j hi q r
end
end Go.Proofs.YtmgglcfndhfceaaGreatDoor.Mg
/- slices.swapRangeCmpFunc at elements of one cell: two ranges that lie apart change places. Conditions: the ranges lie in the row, the first one ahead of the second one. -/
namespace Go.Proofs.YtmgglcfndhfceaaGreatDoor
open Go Go.RowKit Go.Lib Go.Sort Go.Shelf Go.Proofs Go.Proofs.YtmgglcfndhfceaaGreatDoor.Mg
set_option linter.unusedVariables false

section
variable {α : Type} [Inhabited α]
/-- What the row holds. -/
def fn (d : Array α) : Nat → α := fun k => d[k]!

set_option maxHeartbeats 4000000 in
set_option maxRecDepth 100000 in
theorem swapRange_s (enc : α → Value) (cv : Value) (blk off cap a b n : Nat) (d0 d : Array α) (w0 w : World) (R : Row1 enc w0 blk off d0) (hs : d0.size = d.size) (S : SW enc w0 blk off d w)
    (hab : a + n ≤ b) (hb : b + n ≤ d.size) (hsz : d.size < 4611686018427387904) :
    Calls Tryz.prog 115 #[.slice (some ⟨blk, off, none⟩) d.size cap, .int .i64 a, .int .i64 b, .int .i64 n, cv] w fun e w' => e = .returned (.tuple #[]) ∧ ∃ d' : Array α, d'.size = d.size ∧ fn d' = swpR (fn d) a b n ∧ SW enc w0 blk off d' w' := by
  have hcl0 := R.hO.cells
  simp only [Value.cells] at hcl0
  have hst := R.hO.store Tryz.prog
  have mixed : Tryz.prog.follows .mixedOrders = true := by kernel_rfl
  have S0 := Lib.hid S
  clear S
  go_enter Tryz.func115, Tryz.ntmps115
  go_wp2_with fail
  go_loopg [10] n (fun g1 vi wr => ∃ (i : Nat) (dk : Array α), vi = .int .i64 i ∧ i ≤ n ∧ n - i ≤ g1 ∧ dk.size = d.size ∧ Hid (fn dk = swpR (fn d) a b i) ∧ Hid (SW enc w0 blk off dk wr))
  case atStart => exact ⟨0, d, rfl, by omega, by omega, rfl, Lib.hid (swpR_zero _ _ _).symm, S0⟩
  case round =>
    clear S0
    obtain ⟨i, dk, rfl, hin, hg, hsk, HF, S1⟩ := hrel
    by_cases hlt : i < n
    · have hltz : (i : Int) < (n : Int) := by omega
      obtain ⟨iN1, hiN1⟩ : ∃ q, q = a + i := ⟨_, rfl⟩
      obtain ⟨jN1, hjN1⟩ : ∃ q, q = b + i := ⟨_, rfl⟩
      have ea1 : ((a : Int) + (i : Int)).toNat = iN1 := by omega
      have pa1 : (0 : Int) ≤ (a : Int) + (i : Int) := by omega
      have ba1 : (a : Int) + (i : Int) < (d.size : Int) := by omega
      have ra1 : IntKind.i64.wrap ((a : Int) + (i : Int)) = (a : Int) + (i : Int) := by rw [IntKind.wrap_i64]; omega
      have ec1 : ((b : Int) + (i : Int)).toNat = jN1 := by omega
      have pc1 : (0 : Int) ≤ (b : Int) + (i : Int) := by omega
      have bc1 : (b : Int) + (i : Int) < (d.size : Int) := by omega
      have rc1 : IntKind.i64.wrap ((b : Int) + (i : Int)) = (b : Int) + (i : Int) := by rw [IntKind.wrap_i64]; omega
      obtain ⟨x1, hx1⟩ : ∃ x, x = dk[a + i]! := ⟨_, rfl⟩
      obtain ⟨y1, hy1⟩ : ∃ x, x = dk[b + i]! := ⟨_, rfl⟩
      have S2 : Hid (SW enc w0 blk off (swp dk (a + i) (b + i)) ((wr.setCell ⟨blk, off + iN1, none⟩ (enc y1)).setCell ⟨blk, off + jN1, none⟩ (enc x1)).drew) := by rw [hiN1, hjN1, hx1, hy1]; exact Lib.hid (S1.out.swapped R (a + i) (b + i) (by omega) (by omega))
      have c1a := S1.out.c1 R (by omega) (a + i) (by omega)
      have c1b := S1.out.c1 R (by omega) (b + i) (by omega)
      have f1a := S1.out.f1 R (by omega) (a + i) (by omega)
      have f1b := S1.out.f1 R (by omega) (b + i) (by omega)
      obtain ⟨u1, c1c⟩ := S1.out.c2 R (by omega) (a + i) (b + i) (by omega) (by omega) (enc y1)
      rw [← hjN1, ← hiN1] at c1c
      rw [← hx1, ← hiN1] at c1a
      rw [← hy1, ← hjN1] at c1b
      rw [← hiN1] at f1a
      rw [← hjN1] at f1b
      clear S1 hx1 hy1 hiN1 hjN1
      go_wp2_with fail
      go_big_region
      clear c1a c1b c1c f1a f1b
      generalize ((wr.setCell ⟨blk, off + iN1, none⟩ (enc y1)).setCell ⟨blk, off + jN1, none⟩ (enc x1)).drew = w2 at S2 ⊢
      clear ea1 ec1
      go_wp2_with fail
      go_roundg (n - (i + 1))
      case measure => omega
      case rel => exact ⟨i + 1, swp dk (a + i) (b + i), by go_num, by omega, Nat.le_refl _, by rw [swp_size]; exact hsk, Lib.hid (by
        funext k
        show (swp dk (a + i) (b + i))[k]! = _
        rw [swp_get dk (by omega) (by omega), swpR_succ _ _ _ _ _ (by omega), ← HF.out]
        rfl), S2⟩
    · obtain rfl : i = n := by omega
      go_wp2_with fail
      go_end0
      exact ⟨rfl, dk, hsk, HF.out, S1.out⟩
end
end Go.Proofs.YtmgglcfndhfceaaGreatDoor
/- slices.rotateCmpFunc at elements of one cell: two neighbouring ranges change places. Conditions: neither range is empty, both lie in the row. -/
namespace Go.Proofs.YtmgglcfndhfceaaGreatDoor
open Go Go.RowKit Go.Lib Go.Sort Go.Shelf Go.Proofs Go.Proofs.YtmgglcfndhfceaaGreatDoor.Mg
set_option linter.unusedVariables false

section
variable {α : Type} [Inhabited α]
/-- A row that holds what f says. -/
def Rw (enc : α → Value) (w0 : World) (blk off sz : Nat) (f : Nat → α) (w : World) : Prop := ∃ d : Array α, d.size = sz ∧ fn d = f ∧ SW enc w0 blk off d w
def RwR (enc : α → Value) (w0 : World) (blk off sz : Nat) (f : Nat → α) (e : Ending) (w : World) : Prop := e = .returned (.tuple #[]) ∧ Rw enc w0 blk off sz f w

theorem swapRange_z (enc : α → Value) (cv : Value) (blk off cap sz a b n : Nat) (za zb zn : Int) (ea : za = (a : Int)) (eb : zb = (b : Int)) (en : zn = (n : Int)) (d0 : Array α) (f : Nat → α) (w0 w : World) (R : Row1 enc w0 blk off d0) (hs : d0.size = sz) (S : Rw enc w0 blk off sz f w)
    (hab : a + n ≤ b) (hb : b + n ≤ sz) (hsz : sz < 4611686018427387904) :
    Calls Tryz.prog 115 #[.slice (some ⟨blk, off, none⟩) sz cap, .int .i64 za, .int .i64 zb, .int .i64 zn, cv] w (RwR enc w0 blk off sz (swpR f a b n)) := by
  obtain ⟨d, rfl, rfl, S⟩ := S
  subst ea eb en
  exact swapRange_s enc cv blk off cap a b n d0 d w0 w R hs S hab hb hsz

set_option maxHeartbeats 4000000 in
set_option maxRecDepth 100000 in
theorem rotate_s (enc : α → Value) (cv : Value) (blk off cap sz a m b : Nat) (d0 : Array α) (f : Nat → α) (w0 w : World) (R : Row1 enc w0 blk off d0) (hs : d0.size = sz) (S : Rw enc w0 blk off sz f w)
    (ham : a < m) (hmb : m < b) (hb : b ≤ sz) (hsz : sz < 4611686018427387904) :
    Calls Tryz.prog 108 #[.slice (some ⟨blk, off, none⟩) sz cap, .int .i64 a, .int .i64 m, .int .i64 b, cv] w (RwR enc w0 blk off sz (rotR f a m b)) := by
  have HS := Lib.hid S
  have HRW := Lib.hid R
  clear S R
  go_enter Tryz.func108, Tryz.ntmps108
  go_wp2_with fail
  go_loopg [10, 11] (b - a) (fun g1 vi vj wr => ∃ (i j : Nat) (g : Nat → α), vi = .int .i64 i ∧ vj = .int .i64 j ∧ 0 < i ∧ i ≤ m - a ∧ 0 < j ∧ j ≤ b - m ∧ i + j ≤ g1 ∧ Hid (rotR g (m - i) m (m + j) = rotR f a m b) ∧ Hid (Rw enc w0 blk off sz g wr))
  case atStart => exact ⟨m - a, b - m, f, by congr 1; omega, by congr 1; omega, by omega, by omega, by omega, by omega, by omega, Lib.hid (by rw [show m - (m - a) = a by omega, show m + (b - m) = b by omega]), HS⟩
  case round =>
    clear HS
    obtain ⟨i, j, g, rfl, rfl, hi, hi2, hj, hj2, hg, HF, HR⟩ := hrel
    rcases Nat.lt_trichotomy i j with h | h | h
    · have t0 : ((i : Int) == (j : Int)) = false := by simp; omega
      have t1 : decide ((j : Int) < (i : Int)) = false := by simp; omega
      go_wp2_with fail
      refine (swapRange_z enc cv blk off cap sz (m - i) (m + j - i) i _ _ _ (by omega) (by omega) rfl d0 g w0 wr HRW.out hs HR.out (by omega) (by omega) hsz).mono ?_
      rintro e w2 ⟨rfl, hw2⟩
      have HR2 := Lib.hid hw2
      clear hw2 HR
      go_wp2_with fail
      go_roundg (i + (j - i))
      case measure => omega
      case rel => exact ⟨i, j - i, _, rfl, by congr 1; omega, hi, hi2, by omega, by omega, Nat.le_refl _, Lib.hid (by
        rw [← HF.out, ← rot_step2 g (m - i) m (m + j) (by omega) (by omega) (by omega)]
        rw [show m - (m - i) = i by omega, show m + (j - i) = m + j - i by omega]), HR2⟩
    · subst h
      have t0 : ((i : Int) == (i : Int)) = true := by simp
      go_wp2_with fail
      refine (swapRange_z enc cv blk off cap sz (m - i) m i _ _ _ (by omega) rfl rfl d0 g w0 wr HRW.out hs HR.out (by omega) (by omega) hsz).mono ?_
      rintro e w2 ⟨rfl, hw2⟩
      have e3 := rot_end g (m - i) m (m + i) (by omega) (by omega) (by omega)
      rw [show m - (m - i) = i by omega] at e3
      rw [e3, HF.out] at hw2
      clear e3
      go_wp2_with fail
      go_end0
      exact ⟨rfl, hw2⟩
    · have t0 : ((i : Int) == (j : Int)) = false := by simp; omega
      have t1 : decide ((j : Int) < (i : Int)) = true := by simp; omega
      go_wp2_with fail
      refine (swapRange_z enc cv blk off cap sz (m - i) m j _ _ _ (by omega) rfl rfl d0 g w0 wr HRW.out hs HR.out (by omega) (by omega) hsz).mono ?_
      rintro e w2 ⟨rfl, hw2⟩
      have HR2 := Lib.hid hw2
      clear hw2 HR
      go_wp2_with fail
      go_roundg (i - j + j)
      case measure => omega
      case rel => exact ⟨i - j, j, _, by congr 1; omega, rfl, by omega, by omega, hj, hj2, Nat.le_refl _, Lib.hid (by
        rw [← HF.out, ← rot_step1 g (m - i) m (m + j) (by omega) (by omega) (by omega)]
        rw [show m + j - m = j by omega, show m - (i - j) = m - i + j by omega]), HR2⟩
end
end Go.Proofs.YtmgglcfndhfceaaGreatDoor
/- slices.symMergeCmpFunc at elements of one cell: the two base cases. Conditions: the comparison's own contract; both ranges in order. -/
namespace Go.Proofs.YtmgglcfndhfceaaGreatDoor
open Go Go.RowKit Go.Lib Go.Sort Go.Shelf Go.Proofs Go.Proofs.YtmgglcfndhfceaaGreatDoor.Mg
set_option linter.unusedVariables false

section
variable {α : Type} [Inhabited α]
omit [Inhabited α] in
theorem rot_one (f : Nat → α) (a k t : Nat) (h : a ≤ k) : rotR f a (a + 1) (k + 2) t = if t = k + 1 then rotR f a (a + 1) (k + 1) k else if t = k then rotR f a (a + 1) (k + 1) (k + 1) else rotR f a (a + 1) (k + 1) t := by
  unfold rotR
  (repeat' split) <;> first | (exfalso; omega) | (apply ap_eq; omega)
omit [Inhabited α] in
theorem rot_back (f : Nat → α) (m k t : Nat) (h : k + 1 ≤ m) : rotR f k m (m + 1) t = if t = k then rotR f (k + 1) m (m + 1) (k + 1) else if t = k + 1 then rotR f (k + 1) m (m + 1) k else rotR f (k + 1) m (m + 1) t := by
  unfold rotR
  (repeat' split) <;> first | (exfalso; omega) | (apply ap_eq; omega)
/-- What a merge leaves. -/
def SymR (prec : α → α → Prop) (enc : α → Value) (w0 : World) (blk off sz : Nat) (f : Nat → α) (a b : Nat) (e : Ending) (w : World) : Prop := e = .returned (.tuple #[]) ∧ ∃ g, Mrg prec f g a b ∧ Rw enc w0 blk off sz g w
variable {prec Rr : α → α → Prop}

set_option maxHeartbeats 8000000 in
set_option maxRecDepth 100000 in
theorem sym_left (enc : α → Value) (cf : α → α → Int) (g : Nat) (cb : Array Value) (blk off cap sz a m b : Nat) (d0 : Array α) (f : Nat → α) (w0 w : World) (eg : ∀ args w, (callFunc g args).run Tryz.prog w = .ok (.enter g args) w)
    (O : Ord prec Rr (ltOf cf)) (hcmp : CmpLays1 Tryz.prog g cb enc cf blk off sz w0) (R : Row1 enc w0 blk off d0) (hs : d0.size = sz) (S : Rw enc w0 blk off sz f w) (hb : b ≤ sz) (hsz : sz < 4611686018427387904) (hm : m = a + 1) (hmb : m < b)
    (hB : Srt prec f m b) (hx : Crs Rr f a m b) :
    Calls Tryz.prog 93 #[.slice (some ⟨blk, off, none⟩) sz cap, .int .i64 a, .int .i64 m, .int .i64 b, .func (.func g) #[] cb] w (SymR prec enc w0 blk off sz f a b) := by
  have hcl0 := R.hO.cells
  simp only [Value.cells] at hcl0
  have hst := R.hO.store Tryz.prog
  have mixed : Tryz.prog.follows .mixedOrders = true := by kernel_rfl
  have HRW := Lib.hid R
  have HC := Lib.hid hcmp
  have HO := Lib.hid O
  have HS := Lib.hid S
  clear S R hcmp O
  have HB := Lib.hid hB
  have HX := Lib.hid hx
  clear hB hx
  have t0 : ((m : Int) - (a : Int) == 1) = true := by simp; omega
  have HE := Lib.hid hm
  have hm1 : m ≤ a + 1 := by omega
  have hm2 : a + 1 ≤ m := by omega
  clear hm
  go_enter Tryz.func93, Tryz.ntmps93
  go_wp2_with fail
  go_loopg [10, 11] (b - m) (fun g1 vi vj wr => ∃ (i j : Nat), vi = .int .i64 i ∧ vj = .int .i64 j ∧ m ≤ i ∧ i ≤ j ∧ j ≤ b ∧ j - i ≤ g1 ∧ Hid ((∀ t, m ≤ t → t < i → prec (f t) (f a)) ∧ (∀ t, j ≤ t → t < b → prec (f a) (f t))) ∧ Hid (Rw enc w0 blk off sz f wr))
  case atStart => exact ⟨m, b, rfl, rfl, by omega, by omega, by omega, by omega, Lib.hid ⟨fun t _ _ => by omega, fun t _ _ => by omega⟩, HS⟩
  case round =>
    clear HS
    obtain ⟨i, j, rfl, rfl, hmi, hij, hjb, hg, HI, HR⟩ := hrel
    by_cases hlt : i < j
    · obtain ⟨dk, hsk, hfk, S1'⟩ := HR.out
      have S1 := Lib.hid S1'
      have HF := Lib.hid hfk
      clear S1' hfk
      have hltz : (i : Int) < (j : Int) := by omega
      have hrz : IntKind.i64.wrap ((i : Int) + (j : Int)) = (i : Int) + (j : Int) := by rw [IntKind.wrap_i64]; omega
      obtain ⟨iN1, hiN1⟩ : ∃ q, q = (i + j) / 2 := ⟨_, rfl⟩
      obtain ⟨jN1, hjN1⟩ : ∃ q, q = a := ⟨_, rfl⟩
      have ea1 : (((i : Int) + (j : Int)) / 2).toNat = iN1 := by omega
      have pa1 : (0 : Int) ≤ ((i : Int) + (j : Int)) / 2 := by omega
      have ba1 : ((i : Int) + (j : Int)) / 2 < (sz : Int) := by omega
      have ra1 : IntKind.i64.wrap (((i : Int) + (j : Int)) / 2) = ((i : Int) + (j : Int)) / 2 := by rw [IntKind.wrap_i64]; omega
      have ec1 : ((a : Int)).toNat = jN1 := by omega
      have pc1 : (0 : Int) ≤ (a : Int) := by omega
      have bc1 : (a : Int) < (sz : Int) := by omega
      have rc1 : IntKind.i64.wrap ((a : Int)) = (a : Int) := by rw [IntKind.wrap_i64]; omega
      obtain ⟨x1, hx1⟩ : ∃ x, x = dk[(i + j) / 2]! := ⟨_, rfl⟩
      obtain ⟨y1, hy1⟩ : ∃ x, x = dk[a]! := ⟨_, rfl⟩
      have l1a := S1.out.cl HRW.out (by omega) ((i + j) / 2) (by omega)
      have l1b := S1.out.cl HRW.out (by omega) (a) (by omega)
      rw [← hx1, ← hiN1] at l1a
      rw [← hy1, ← hjN1] at l1b
      have hc1 := S1.out.cmp HC.out (by omega) x1 y1
      have HX1 : Hid (x1 = f ((i + j) / 2) ∧ y1 = f a) := Lib.hid ⟨hx1.trans (congrFun HF.out ((i + j) / 2)), hy1.trans (congrFun HF.out a)⟩
      clear hx1 hy1 hiN1 hjN1
      by_cases hv : cf x1 y1 < 0
      · have hd1 : decide (cf x1 y1 < 0) = true := decide_eq_true hv
        go_wp2_with fail
        go_quiet_grown (first | (go_at_fn g; refine Calls.grown_of (hc1 _ _)))
        have S2 : Hid (Rw enc w0 blk off sz f (grow (wr.drewN nq) osq)) := Lib.hid ⟨dk, hsk, HF.out, S1.out.grown nq osq⟩
        clear l1a l1b hc1 S1 HR
        generalize grow (wr.drewN nq) osq = w2 at S2 ⊢
        clear nq osq
        clear ea1 ec1
        go_wp2_with fail
        go_roundg (j - ((i + j) / 2 + 1))
        case measure => omega
        case rel => exact ⟨(i + j) / 2 + 1, j, by first | (congr 1; done) | (congr 1; omega), rfl, by omega, by omega, hjb, Nat.le_refl _, Lib.hid ⟨fun t h1 h2 => HB.out.le HO.out h1 (by omega : t ≤ (i + j) / 2) (by omega) (HO.out.no _ _ (HX.out a ((i + j) / 2) (Nat.le_refl _) (by omega) (by omega) (by omega)) (by rw [← HX1.out.1, ← HX1.out.2]; exact decide_eq_true hv)), HI.out.2⟩, S2⟩
      · have hd1 : decide (cf x1 y1 < 0) = false := decide_eq_false hv
        go_wp2_with fail
        go_quiet_grown (first | (go_at_fn g; refine Calls.grown_of (hc1 _ _)))
        have S2 : Hid (Rw enc w0 blk off sz f (grow (wr.drewN nq) osq)) := Lib.hid ⟨dk, hsk, HF.out, S1.out.grown nq osq⟩
        clear l1a l1b hc1 S1 HR
        generalize grow (wr.drewN nq) osq = w2 at S2 ⊢
        clear nq osq
        clear ea1 ec1
        go_wp2_with fail
        go_roundg ((i + j) / 2 - i)
        case measure => omega
        case rel => exact ⟨i, (i + j) / 2, rfl, by first | (congr 1; done) | (congr 1; omega), by omega, by omega, by omega, Nat.le_refl _, Lib.hid ⟨HI.out.1, fun t h1 h2 => HB.out.ge HO.out (by omega) h1 h2 (HO.out.yes _ _ (HX.out a ((i + j) / 2) (Nat.le_refl _) (by omega) (by omega) (by omega)) (by rw [← HX1.out.1, ← HX1.out.2]; exact decide_eq_false (by omega)))⟩, S2⟩
    · obtain rfl : j = i := by omega
      have HM : Hid (Mrg prec f (rotR f a m j) a b) := Lib.hid (mrg_left HO.out HE.out hmi hjb HB.out HI.out.1 HI.out.2)
      clear HI HB HX hlt hij
      go_wp2_with fail
      go_loopg [13] (j - m) (fun g1 vk wr => ∃ k : Nat, vk = .int .i64 k ∧ a ≤ k ∧ k + 1 ≤ j ∧ j - 1 - k ≤ g1 ∧ Hid (Rw enc w0 blk off sz (rotR f a (a + 1) (k + 1)) wr))
      case atStart => exact ⟨a, rfl, Nat.le_refl _, by omega, by omega, by rw [rot_none2 f a (a + 1) (by omega)]; exact HR⟩
      case round =>
        clear HR
        obtain ⟨k, rfl, hak, hkj, hg2, HR⟩ := hrel
        by_cases hlt : k + 1 < j
        · obtain ⟨dk, hsk, hfk, S1'⟩ := HR.out
          have S1 := Lib.hid S1'
          have HF := Lib.hid hfk
          clear S1' hfk HR
          have hltz : (k : Int) < (j : Int) - 1 := by omega
          obtain ⟨iN2, hiN2⟩ : ∃ q, q = k := ⟨_, rfl⟩
          obtain ⟨jN2, hjN2⟩ : ∃ q, q = k + 1 := ⟨_, rfl⟩
          have ea2 : ((k : Int)).toNat = iN2 := by omega
          have pa2 : (0 : Int) ≤ (k : Int) := by omega
          have ba2 : (k : Int) < (sz : Int) := by omega
          have ra2 : IntKind.i64.wrap ((k : Int)) = (k : Int) := by rw [IntKind.wrap_i64]; omega
          have ec2 : ((k : Int) + 1).toNat = jN2 := by omega
          have pc2 : (0 : Int) ≤ (k : Int) + 1 := by omega
          have bc2 : (k : Int) + 1 < (sz : Int) := by omega
          have rc2 : IntKind.i64.wrap ((k : Int) + 1) = (k : Int) + 1 := by rw [IntKind.wrap_i64]; omega
          obtain ⟨x2, hx2⟩ : ∃ x, x = dk[k]! := ⟨_, rfl⟩
          obtain ⟨y2, hy2⟩ : ∃ x, x = dk[k + 1]! := ⟨_, rfl⟩
          have SN2 : Hid (SW enc w0 blk off (swp dk (k) (k + 1)) ((wr.setCell ⟨blk, off + iN2, none⟩ (enc y2)).setCell ⟨blk, off + jN2, none⟩ (enc x2)).drew) := by rw [hiN2, hjN2, hx2, hy2]; exact Lib.hid (S1.out.swapped HRW.out (k) (k + 1) (by omega) (by omega))
          have c2a := S1.out.c1 HRW.out (by omega) (k) (by omega)
          have c2b := S1.out.c1 HRW.out (by omega) (k + 1) (by omega)
          have f2a := S1.out.f1 HRW.out (by omega) (k) (by omega)
          have f2b := S1.out.f1 HRW.out (by omega) (k + 1) (by omega)
          obtain ⟨u2, c2c⟩ := S1.out.c2 HRW.out (by omega) (k) (k + 1) (by omega) (by omega) (enc y2)
          rw [← hjN2, ← hiN2] at c2c
          rw [← hx2, ← hiN2] at c2a
          rw [← hy2, ← hjN2] at c2b
          rw [← hiN2] at f2a
          rw [← hjN2] at f2b
          clear S1 hx2 hy2 hiN2 hjN2
          go_wp2_with fail
          go_big_region
          clear c2a c2b c2c f2a f2b
          generalize ((wr.setCell ⟨blk, off + iN2, none⟩ (enc y2)).setCell ⟨blk, off + jN2, none⟩ (enc x2)).drew = w2 at SN2 ⊢
          clear ea2 ec2
          go_wp2_with fail
          go_roundg (j - 1 - (k + 1))
          case measure => omega
          case rel => exact ⟨k + 1, by go_num, by omega, by omega, Nat.le_refl _, Lib.hid ⟨_, by rw [swp_size]; exact hsk, by
            funext t
            show (swp dk k (k + 1))[t]! = _
            rw [swp_get dk (by omega) (by omega), rot_one f a k t hak, ← HF.out]
            rfl, SN2.out⟩⟩
        · obtain rfl : j = k + 1 := by omega
          have hltz : ¬ (k : Int) < ((k + 1 : Nat) : Int) - 1 := by omega
          go_wp2_with fail
          go_end0
          refine ⟨rfl, _, ?_, HR.out⟩
          have := HM.out
          rwa [HE.out] at this

set_option maxHeartbeats 8000000 in
set_option maxRecDepth 100000 in
theorem sym_right (enc : α → Value) (cf : α → α → Int) (g : Nat) (cb : Array Value) (blk off cap sz a m b : Nat) (d0 : Array α) (f : Nat → α) (w0 w : World) (eg : ∀ args w, (callFunc g args).run Tryz.prog w = .ok (.enter g args) w)
    (O : Ord prec Rr (ltOf cf)) (hcmp : CmpLays1 Tryz.prog g cb enc cf blk off sz w0) (R : Row1 enc w0 blk off d0) (hs : d0.size = sz) (S : Rw enc w0 blk off sz f w) (hb : b ≤ sz) (hsz : sz < 4611686018427387904) (hbm : b = m + 1) (ham : a + 1 < m)
    (hA : Srt prec f a m) (hx : Crs Rr f a m b) :
    Calls Tryz.prog 93 #[.slice (some ⟨blk, off, none⟩) sz cap, .int .i64 a, .int .i64 m, .int .i64 b, .func (.func g) #[] cb] w (SymR prec enc w0 blk off sz f a b) := by
  have hcl0 := R.hO.cells
  simp only [Value.cells] at hcl0
  have hst := R.hO.store Tryz.prog
  have mixed : Tryz.prog.follows .mixedOrders = true := by kernel_rfl
  have HRW := Lib.hid R
  have HC := Lib.hid hcmp
  have HO := Lib.hid O
  have HS := Lib.hid S
  clear S R hcmp O
  have HB := Lib.hid hA
  have HX := Lib.hid hx
  clear hA hx
  have t0 : ((m : Int) - (a : Int) == 1) = false := by simp; omega
  have t1 : ((b : Int) - (m : Int) == 1) = true := by simp; omega
  have HE := Lib.hid hbm
  have hm1 : b ≤ m + 1 := by omega
  have hm2 : m + 1 ≤ b := by omega
  clear hbm
  go_enter Tryz.func93, Tryz.ntmps93
  go_wp2_with fail
  go_loopg [14, 15] (m - a) (fun g1 vi vj wr => ∃ (i j : Nat), vi = .int .i64 i ∧ vj = .int .i64 j ∧ a ≤ i ∧ i ≤ j ∧ j ≤ m ∧ j - i ≤ g1 ∧ Hid ((∀ t, a ≤ t → t < i → prec (f t) (f m)) ∧ (∀ t, j ≤ t → t < m → prec (f m) (f t))) ∧ Hid (Rw enc w0 blk off sz f wr))
  case atStart => exact ⟨a, m, rfl, rfl, by omega, by omega, by omega, by omega, Lib.hid ⟨fun t _ _ => by omega, fun t _ _ => by omega⟩, HS⟩
  case round =>
    clear HS
    obtain ⟨i, j, rfl, rfl, hmi, hij, hjb, hg, HI, HR⟩ := hrel
    by_cases hlt : i < j
    · obtain ⟨dk, hsk, hfk, S1'⟩ := HR.out
      have S1 := Lib.hid S1'
      have HF := Lib.hid hfk
      clear S1' hfk
      have hltz : (i : Int) < (j : Int) := by omega
      have hrz : IntKind.i64.wrap ((i : Int) + (j : Int)) = (i : Int) + (j : Int) := by rw [IntKind.wrap_i64]; omega
      obtain ⟨iN1, hiN1⟩ : ∃ q, q = m := ⟨_, rfl⟩
      obtain ⟨jN1, hjN1⟩ : ∃ q, q = (i + j) / 2 := ⟨_, rfl⟩
      have ea1 : ((m : Int)).toNat = iN1 := by omega
      have pa1 : (0 : Int) ≤ (m : Int) := by omega
      have ba1 : (m : Int) < (sz : Int) := by omega
      have ra1 : IntKind.i64.wrap ((m : Int)) = (m : Int) := by rw [IntKind.wrap_i64]; omega
      have ec1 : (((i : Int) + (j : Int)) / 2).toNat = jN1 := by omega
      have pc1 : (0 : Int) ≤ ((i : Int) + (j : Int)) / 2 := by omega
      have bc1 : ((i : Int) + (j : Int)) / 2 < (sz : Int) := by omega
      have rc1 : IntKind.i64.wrap (((i : Int) + (j : Int)) / 2) = ((i : Int) + (j : Int)) / 2 := by rw [IntKind.wrap_i64]; omega
      obtain ⟨x1, hx1⟩ : ∃ x, x = dk[m]! := ⟨_, rfl⟩
      obtain ⟨y1, hy1⟩ : ∃ x, x = dk[(i + j) / 2]! := ⟨_, rfl⟩
      have l1a := S1.out.cl HRW.out (by omega) (m) (by omega)
      have l1b := S1.out.cl HRW.out (by omega) ((i + j) / 2) (by omega)
      rw [← hx1, ← hiN1] at l1a
      rw [← hy1, ← hjN1] at l1b
      have hc1 := S1.out.cmp HC.out (by omega) x1 y1
      have HX1 : Hid (x1 = f m ∧ y1 = f ((i + j) / 2)) := Lib.hid ⟨hx1.trans (congrFun HF.out m), hy1.trans (congrFun HF.out ((i + j) / 2))⟩
      clear hx1 hy1 hiN1 hjN1
      by_cases hv : cf x1 y1 < 0
      · have hd1 : decide (cf x1 y1 < 0) = true := decide_eq_true hv
        go_wp2_with fail
        go_quiet_grown (first | (go_at_fn g; refine Calls.grown_of (hc1 _ _)))
        have S2 : Hid (Rw enc w0 blk off sz f (grow (wr.drewN nq) osq)) := Lib.hid ⟨dk, hsk, HF.out, S1.out.grown nq osq⟩
        clear l1a l1b hc1 S1 HR
        generalize grow (wr.drewN nq) osq = w2 at S2 ⊢
        clear nq osq
        clear ea1 ec1
        go_wp2_with fail
        go_roundg ((i + j) / 2 - i)
        case measure => omega
        case rel => exact ⟨i, (i + j) / 2, rfl, by first | (congr 1; done) | (congr 1; omega), by omega, by omega, by omega, Nat.le_refl _, Lib.hid ⟨HI.out.1, fun t h1 h2 => HB.out.ge HO.out (by omega) h1 h2 (HO.out.no _ _ (HX.out ((i + j) / 2) m (by omega) (by omega) (Nat.le_refl _) (by omega)) (by rw [← HX1.out.1, ← HX1.out.2]; exact decide_eq_true hv))⟩, S2⟩
      · have hd1 : decide (cf x1 y1 < 0) = false := decide_eq_false hv
        go_wp2_with fail
        go_quiet_grown (first | (go_at_fn g; refine Calls.grown_of (hc1 _ _)))
        have S2 : Hid (Rw enc w0 blk off sz f (grow (wr.drewN nq) osq)) := Lib.hid ⟨dk, hsk, HF.out, S1.out.grown nq osq⟩
        clear l1a l1b hc1 S1 HR
        generalize grow (wr.drewN nq) osq = w2 at S2 ⊢
        clear nq osq
        clear ea1 ec1
        go_wp2_with fail
        go_roundg (j - ((i + j) / 2 + 1))
        case measure => omega
        case rel => exact ⟨(i + j) / 2 + 1, j, by first | (congr 1; done) | (congr 1; omega), rfl, by omega, by omega, hjb, Nat.le_refl _, Lib.hid ⟨fun t h1 h2 => HB.out.le HO.out h1 (by omega : t ≤ (i + j) / 2) (by omega) (HO.out.yes _ _ (HX.out ((i + j) / 2) m (by omega) (by omega) (Nat.le_refl _) (by omega)) (by rw [← HX1.out.1, ← HX1.out.2]; exact decide_eq_false (by omega))), HI.out.2⟩, S2⟩
    · obtain rfl : j = i := by omega
      have HM : Hid (Mrg prec f (rotR f j m b) a b) := Lib.hid (mrg_right HO.out HE.out hmi hjb HB.out HI.out.1 HI.out.2)
      clear HI HB HX hlt hij
      go_wp2_with fail
      go_loopg [17] (m - j) (fun g1 vk wr => ∃ k : Nat, vk = .int .i64 k ∧ j ≤ k ∧ k ≤ m ∧ k - j ≤ g1 ∧ Hid (Rw enc w0 blk off sz (rotR f k m (m + 1)) wr))
      case atStart => exact ⟨m, rfl, hjb, Nat.le_refl _, Nat.le_refl _, by rw [rot_none1 f m (m + 1)]; exact HR⟩
      case round =>
        clear HR
        obtain ⟨k, rfl, hak, hkj, hg2, HR⟩ := hrel
        by_cases hlt : j < k
        · obtain ⟨kp, rfl⟩ : ∃ q, k = q + 1 := ⟨k - 1, by omega⟩
          obtain ⟨dk, hsk, hfk, S1'⟩ := HR.out
          have S1 := Lib.hid S1'
          have HF := Lib.hid hfk
          clear S1' hfk HR
          have hltz : decide ((j : Int) < ((kp + 1 : Nat) : Int)) = true := decide_eq_true (by omega)
          have hltz' : (j : Int) < ((kp + 1 : Nat) : Int) := by omega
          obtain ⟨iN2, hiN2⟩ : ∃ q, q = kp + 1 := ⟨_, rfl⟩
          obtain ⟨jN2, hjN2⟩ : ∃ q, q = kp := ⟨_, rfl⟩
          have ea2 : ((kp : Int) + 1).toNat = iN2 := by omega
          have pa2 : (0 : Int) ≤ (kp : Int) + 1 := by omega
          have ba2 : (kp : Int) + 1 < (sz : Int) := by omega
          have ra2 : IntKind.i64.wrap ((kp : Int) + 1) = (kp : Int) + 1 := by rw [IntKind.wrap_i64]; omega
          have ec2 : ((kp : Int)).toNat = jN2 := by omega
          have pc2 : (0 : Int) ≤ (kp : Int) := by omega
          have bc2 : (kp : Int) < (sz : Int) := by omega
          have rc2 : IntKind.i64.wrap ((kp : Int)) = (kp : Int) := by rw [IntKind.wrap_i64]; omega
          obtain ⟨x2, hx2⟩ : ∃ x, x = dk[kp + 1]! := ⟨_, rfl⟩
          obtain ⟨y2, hy2⟩ : ∃ x, x = dk[kp]! := ⟨_, rfl⟩
          have SN2 : Hid (SW enc w0 blk off (swp dk (kp + 1) (kp)) ((wr.setCell ⟨blk, off + iN2, none⟩ (enc y2)).setCell ⟨blk, off + jN2, none⟩ (enc x2)).drew) := by rw [hiN2, hjN2, hx2, hy2]; exact Lib.hid (S1.out.swapped HRW.out (kp + 1) (kp) (by omega) (by omega))
          have c2a := S1.out.c1 HRW.out (by omega) (kp + 1) (by omega)
          have c2b := S1.out.c1 HRW.out (by omega) (kp) (by omega)
          have f2a := S1.out.f1 HRW.out (by omega) (kp + 1) (by omega)
          have f2b := S1.out.f1 HRW.out (by omega) (kp) (by omega)
          obtain ⟨u2, c2c⟩ := S1.out.c2 HRW.out (by omega) (kp + 1) (kp) (by omega) (by omega) (enc y2)
          rw [← hiN2, ← hjN2] at c2c
          rw [← hx2, ← hiN2] at c2a
          rw [← hy2, ← hjN2] at c2b
          rw [← hiN2] at f2a
          rw [← hjN2] at f2b
          clear S1 hx2 hy2 hiN2 hjN2
          go_wp2_with fail
          go_big_region
          clear c2a c2b c2c f2a f2b
          generalize ((wr.setCell ⟨blk, off + iN2, none⟩ (enc y2)).setCell ⟨blk, off + jN2, none⟩ (enc x2)).drew = w2 at SN2 ⊢
          clear ea2 ec2
          go_wp2_with fail
          go_roundg (kp - j)
          case measure => omega
          case rel => exact ⟨kp, by go_num, by omega, by omega, Nat.le_refl _, Lib.hid ⟨_, by rw [swp_size]; exact hsk, by
            funext t
            show (swp dk (kp + 1) kp)[t]! = _
            rw [swp_get dk (by omega) (by omega), rot_back f m kp t (by omega), ← HF.out]
            rfl, SN2.out⟩⟩
        · obtain rfl : k = j := by omega
          have hltz : ¬ (k : Int) < (k : Int) := by omega
          go_wp2_with fail
          go_end0
          refine ⟨rfl, _, ?_, HR.out⟩
          rw [show rotR f k m (m + 1) = rotR f k m b by rw [HE.out]]
          exact HM.out
end
end Go.Proofs.YtmgglcfndhfceaaGreatDoor
/- slices.symMergeCmpFunc at elements of one cell: where neither range has one element, its callees under contract. Conditions: the comparison's own contract; both ranges in order. -/
namespace Go.Proofs.YtmgglcfndhfceaaGreatDoor
open Go Go.RowKit Go.Lib Go.Sort Go.Shelf Go.Proofs Go.Proofs.YtmgglcfndhfceaaGreatDoor.Mg
set_option linter.unusedVariables false

section
variable {α : Type} [Inhabited α]
variable {prec Rr : α → α → Prop}
set_option maxHeartbeats 16000000 in
set_option maxRecDepth 100000 in
theorem sym_deep (enc : α → Value) (cf : α → α → Int) (g : Nat) (cb : Array Value) (blk off cap sz a m b : Nat) (d0 : Array α) (f : Nat → α) (w0 w : World) (eg : ∀ args w, (callFunc g args).run Tryz.prog w = .ok (.enter g args) w)
    (O : Ord prec Rr (ltOf cf)) (hcmp : CmpLays1 Tryz.prog g cb enc cf blk off sz w0) (R : Row1 enc w0 blk off d0) (hs : d0.size = sz) (S : Rw enc w0 blk off sz f w) (hb : b ≤ sz) (hsz : sz < 4611686018427387904) (ham : a + 1 < m) (hmb : m + 1 < b)
    (hA : Srt prec f a m) (hB : Srt prec f m b) (hx : Crs Rr f a m b)
    (IH : ∀ (a' m' b' : Nat) (f' : Nat → α) (w' : World), a' < m' → m' < b' → b' - a' < b - a → b' ≤ sz → Rw enc w0 blk off sz f' w' → Srt prec f' a' m' → Srt prec f' m' b' → Crs Rr f' a' m' b' →
      Calls Tryz.prog 93 #[.slice (some ⟨blk, off, none⟩) sz cap, .int .i64 a', .int .i64 m', .int .i64 b', .func (.func g) #[] cb] w' (SymR prec enc w0 blk off sz f' a' b')) :
    Calls Tryz.prog 93 #[.slice (some ⟨blk, off, none⟩) sz cap, .int .i64 a, .int .i64 m, .int .i64 b, .func (.func g) #[] cb] w (SymR prec enc w0 blk off sz f a b) := by
  have hcl0 := R.hO.cells
  simp only [Value.cells] at hcl0
  have hst := R.hO.store Tryz.prog
  have mixed : Tryz.prog.follows .mixedOrders = true := by kernel_rfl
  have HRW := Lib.hid R
  have HC := Lib.hid hcmp
  have HO := Lib.hid O
  have HS := Lib.hid S
  clear S R hcmp O
  have HIH := Lib.hid IH
  have HSA := Lib.hid hA
  have HSB := Lib.hid hB
  have HX := Lib.hid hx
  clear hA hB hx IH
  have t0 : ((m : Int) - (a : Int) == 1) = false := by simp; omega
  have t1 : ((b : Int) - (m : Int) == 1) = false := by simp; omega
  have hrz : IntKind.i64.wrap ((a : Int) + (b : Int)) = (a : Int) + (b : Int) := by rw [IntKind.wrap_i64]; omega
  obtain ⟨M, hM1⟩ : ∃ M : Nat, ((a : Int) + (b : Int)) / 2 = (M : Int) := ⟨(a + b) / 2, by omega⟩
  have hM2 : 2 * M ≤ a + b := by omega
  have hM3 : a + b ≤ 2 * M + 1 := by omega
  go_enter Tryz.func93, Tryz.ntmps93
  go_upto_if 140 with fail
  go_cut [20, 21] from 141 to 146 (fun x y wx => ∃ s0 r0 : Nat, x = .int .i64 s0 ∧ y = .int .i64 r0 ∧ a ≤ s0 ∧ s0 ≤ r0 ∧ r0 ≤ m ∧ r0 ≤ M ∧ M + m ≤ s0 + b ∧ Hid ((s0 = a ∨ s0 + b = M + m) ∧ (r0 = m ∨ r0 = M)) ∧ Hid (Rw enc w0 blk off sz f wx))
  case first =>
    by_cases hd : M < m
    · have hdz : decide ((M : Int) < (m : Int)) = true := decide_eq_true (by omega)
      go_wp2_with fail
      go_meet
      exact ⟨M + m - b, M, by congr 1; omega, rfl, by omega, by omega, by omega, by omega, by omega, Lib.hid ⟨.inr (by omega), .inr rfl⟩, HS⟩
    · have hdz : decide ((M : Int) < (m : Int)) = false := decide_eq_false (by omega)
      go_wp2_with fail
      go_meet
      exact ⟨a, m, rfl, rfl, by omega, by omega, by omega, by omega, by omega, Lib.hid ⟨.inl rfl, .inl rfl⟩, HS⟩
  case rest =>
    clear HS
    obtain ⟨s0, r0, rfl, rfl, b1, b2, b3, b4, b5, HE, HS⟩ := hcut
    go_wp2_with fail
    go_loopg [20, 21] (r0 - s0) (fun g1 vi vj wr => ∃ (s r : Nat), vi = .int .i64 s ∧ vj = .int .i64 r ∧ s0 ≤ s ∧ s ≤ r ∧ r ≤ r0 ∧ r - s ≤ g1 ∧ Hid (Cut prec f (M + m - 1) s0 s r r0) ∧ Hid (Rw enc w0 blk off sz f wr))
    case atStart => exact ⟨s0, r0, rfl, rfl, by omega, by omega, by omega, Nat.le_refl _, Lib.hid Cut.start, HS⟩
    case round =>
      clear HS
      obtain ⟨s, r, rfl, rfl, c1, c2, c3, hg, HI, HR⟩ := hrel
      by_cases hlt : s < r
      · obtain ⟨dk, hsk, hfk, S1'⟩ := HR.out
        have S1 := Lib.hid S1'
        have HF := Lib.hid hfk
        clear S1' hfk
        have hltz : (s : Int) < (r : Int) := by omega
        have hrz2 : IntKind.i64.wrap ((s : Int) + (r : Int)) = (s : Int) + (r : Int) := by rw [IntKind.wrap_i64]; omega
        obtain ⟨C, hC1⟩ : ∃ C : Nat, ((s : Int) + (r : Int)) / 2 = (C : Int) := ⟨(s + r) / 2, by omega⟩
        have hC2 : s ≤ C := by omega
        have hC3 : C < r := by omega
        obtain ⟨D, hD1⟩ : ∃ D : Nat, D = M + m - 1 - C := ⟨_, rfl⟩
        have rD : IntKind.i64.wrap ((M : Int) + (m : Int) - 1 - (C : Int)) = (D : Int) := by rw [IntKind.wrap_i64]; omega
        have rD2 : (M : Int) + (m : Int) - 1 - (C : Int) = (D : Int) := by omega
        obtain ⟨iN1, hiN1⟩ : ∃ q, q = D := ⟨_, rfl⟩
        obtain ⟨jN1, hjN1⟩ : ∃ q, q = C := ⟨_, rfl⟩
        have ea1 : ((D : Int)).toNat = iN1 := by omega
        have pa1 : (0 : Int) ≤ (D : Int) := by omega
        have ba1 : (D : Int) < (sz : Int) := by omega
        have ra1 : IntKind.i64.wrap ((D : Int)) = (D : Int) := by rw [IntKind.wrap_i64]; omega
        have ec1 : ((C : Int)).toNat = jN1 := by omega
        have pc1 : (0 : Int) ≤ (C : Int) := by omega
        have bc1 : (C : Int) < (sz : Int) := by omega
        have rc1 : IntKind.i64.wrap ((C : Int)) = (C : Int) := by rw [IntKind.wrap_i64]; omega
        obtain ⟨x1, hx1⟩ : ∃ x, x = dk[D]! := ⟨_, rfl⟩
        obtain ⟨y1, hy1⟩ : ∃ x, x = dk[C]! := ⟨_, rfl⟩
        have l1a := S1.out.cl HRW.out (by omega) (D) (by omega)
        have l1b := S1.out.cl HRW.out (by omega) (C) (by omega)
        rw [← hx1, ← hiN1] at l1a
        rw [← hy1, ← hjN1] at l1b
        have hc1 := S1.out.cmp HC.out (by omega) x1 y1
        rw [hD1] at hx1
        clear hD1
        have HX1 : Hid (x1 = f (M + m - 1 - C) ∧ y1 = f C) := Lib.hid ⟨hx1.trans (congrFun HF.out (M + m - 1 - C)), hy1.trans (congrFun HF.out C)⟩
        clear hx1 hy1 hiN1 hjN1
        obtain ⟨q, hd1⟩ : ∃ q : Bool, decide (cf x1 y1 < 0) = q := ⟨_, rfl⟩
        have HQ1 : Hid (decide (cf x1 y1 < 0) = q) := Lib.hid hd1
        go_wp2_with fail
        go_quiet_grown (first | (go_at_fn g; refine Calls.grown_of (hc1 _ _)))
        have S2 : Hid (Rw enc w0 blk off sz f (grow (wr.drewN nq) osq)) := Lib.hid ⟨dk, hsk, HF.out, S1.out.grown nq osq⟩
        clear l1a l1b hc1 S1 HR hd1
        generalize grow (wr.drewN nq) osq = w2 at S2 ⊢
        clear nq osq
        clear ea1 ec1
        rcases q with _ | _
        · have hv : ltOf cf x1 y1 = false := HQ1.out
          rw [HX1.out.1, HX1.out.2] at hv
          have HI2 : Hid (Cut prec f (M + m - 1) s0 (C + 1) r r0) := Lib.hid (HI.out.up HO.out HSA.out HSB.out HX.out b1 (by omega) (by omega) b3 (by omega) (by omega) hv)
          clear HI hv HQ1 HX1
          go_wp2_with fail
          go_roundg (r - (C + 1))
          case measure => omega
          case rel => exact ⟨C + 1, r, by go_num, rfl, by omega, by omega, c3, Nat.le_refl _, HI2, S2⟩
        · have hv : ltOf cf x1 y1 = true := HQ1.out
          rw [HX1.out.1, HX1.out.2] at hv
          have HI2 : Hid (Cut prec f (M + m - 1) s0 s C r0) := Lib.hid (HI.out.down HO.out HSA.out HSB.out HX.out b1 (by omega) (by omega) b3 (by omega) (by omega) hv)
          clear HI hv HQ1 HX1
          go_wp2_with fail
          go_roundg (C - s)
          case measure => omega
          case rel => exact ⟨s, C, rfl, rfl, c1, by omega, by omega, Nat.le_refl _, HI2, S2⟩
      · obtain rfl : r = s := by omega
        have HP : Hid (Pcs prec Rr f (rotR f r m (M + m - r)) a r M (M + m - r) b) := Lib.hid (pcs HSA.out HSB.out HX.out (by omega) (by omega) (by omega) (by omega)
          (fun i j p q u v => cut_x1 HO.out HSA.out HSB.out b1 c1 c3 b3 b4 HI.out HE.out.1 p q u v) (fun i j p q u v => cut_x2 HO.out HSA.out HSB.out b1 c1 c3 b3 b4 HI.out HE.out.2 (by omega) p q u v))
        clear HI HE HSA HSB HX
        obtain ⟨e, he1⟩ : ∃ e : Nat, (M : Int) + (m : Int) - (r : Int) = (e : Int) := ⟨M + m - r, by omega⟩
        have he2 : M + m - r = e := by omega
        rw [he2] at HP
        have q0 : a ≤ r := by omega
        have q1 : r ≤ m := by omega
        have q2 : r ≤ M := by omega
        have q3 : m ≤ e := by omega
        have q4 : M ≤ e := by omega
        have q5 : e ≤ b := by omega
        have q6 : a < M := by omega
        have q7 : M < b := by omega
        clear he2 b1 b2 b3 b4 b5 c1 c2 c3 hlt hg hM2 hM3
        go_upto_region 39 with fail
        go_cut [185] from 178 to 184 (fun x wx => ∃ q : Bool, x = .bool q ∧ Hid (q = true → r < m ∧ m < e) ∧ Hid (q = false → r = m ∨ m = e) ∧ wx = wr)
        case first =>
          by_cases h1 : r < m
          · by_cases h2 : m < e
            · have t2 : decide ((r : Int) < (m : Int)) = true := decide_eq_true (by omega)
              have t3 : decide ((m : Int) < (e : Int)) = true := decide_eq_true (by omega)
              go_wp2_with fail
              go_meet
              exact ⟨true, rfl, Lib.hid (fun _ => ⟨h1, h2⟩), Lib.hid (fun c => by cases c), rfl⟩
            · have t2 : decide ((r : Int) < (m : Int)) = true := decide_eq_true (by omega)
              have t3 : decide ((m : Int) < (e : Int)) = false := decide_eq_false (by omega)
              go_wp2_with fail
              go_meet
              exact ⟨false, rfl, Lib.hid (fun c => by cases c), Lib.hid (fun _ => .inr (by omega)), rfl⟩
          · have t2 : decide ((r : Int) < (m : Int)) = false := decide_eq_false (by omega)
            go_wp2_with fail
            go_meet
            exact ⟨false, rfl, Lib.hid (fun c => by cases c), Lib.hid (fun _ => .inl (by omega)), rfl⟩
        case rest =>
          obtain ⟨q, rfl, HQ, HQ', rfl⟩ := hcut
          go_upto_if 185 with fail
          go_cut [24] from 186 to 191 (fun x wx => x = .int .i64 e ∧ Hid (Rw enc w0 blk off sz (rotR f r m e) wx))
          case first =>
            rcases q with _ | _
            · have e2 : rotR f r m e = f := by
                rcases HQ'.out rfl with h | h
                · rw [h]; exact rot_none1 f m e
                · rw [← h]; exact rot_none2 f r m q1
              go_wp2_with fail
              go_meet
              exact ⟨rfl, by rw [e2]; exact HR⟩
            · obtain ⟨h1, h2⟩ := HQ.out rfl
              go_wp2_with fail
              refine (rotate_s enc _ blk off cap sz r m e d0 f w0 _ HRW.out hs HR.out h1 h2 (by omega) hsz).mono ?_
              rintro z w2 ⟨rfl, hw2⟩
              have HR2 := Lib.hid hw2
              clear hw2
              go_wp2_with fail
              go_meet
              exact ⟨rfl, HR2⟩
          case rest =>
            clear HQ HQ' HR
            obtain ⟨rfl, HR⟩ := hcut
            have HG := Lib.hid (Eq.refl (rotR f r m e))
            generalize rotR f r m e = G at HP HR
            clear HG
            go_upto_region 41 with fail
            go_cut [199] from 192 to 198 (fun x wx => ∃ q : Bool, x = .bool q ∧ Hid (q = true → a < r ∧ r < M) ∧ Hid (q = false → r ≤ a ∨ M ≤ r) ∧ wx = wc)
            case first =>
              by_cases h1 : a < r
              · by_cases h2 : r < M
                · have t2 : decide ((a : Int) < (r : Int)) = true := decide_eq_true (by omega)
                  have t3 : decide ((r : Int) < (M : Int)) = true := decide_eq_true (by omega)
                  go_wp2_with fail
                  go_meet
                  exact ⟨true, rfl, Lib.hid (fun _ => ⟨h1, h2⟩), Lib.hid (fun c => by cases c), rfl⟩
                · have t2 : decide ((a : Int) < (r : Int)) = true := decide_eq_true (by omega)
                  have t3 : decide ((r : Int) < (M : Int)) = false := decide_eq_false (by omega)
                  go_wp2_with fail
                  go_meet
                  exact ⟨false, rfl, Lib.hid (fun c => by cases c), Lib.hid (fun _ => .inr (by omega)), rfl⟩
              · have t2 : decide ((a : Int) < (r : Int)) = false := decide_eq_false (by omega)
                go_wp2_with fail
                go_meet
                exact ⟨false, rfl, Lib.hid (fun c => by cases c), Lib.hid (fun _ => .inl (by omega)), rfl⟩
            case rest =>
              obtain ⟨q, rfl, HQ, HQ', rfl⟩ := hcut
              go_upto_if 199 with fail
              go_cut [24] from 200 to 205 (fun x wx => x = .int .i64 e ∧ ∃ G1, Hid (Mrg prec G G1 a M) ∧ Hid (Rw enc w0 blk off sz G1 wx))
              case first =>
                rcases q with _ | _
                · have hM := Lib.hid (HP.out.skip1 (HQ'.out rfl) q0 q2)
                  go_wp2_with fail
                  go_meet
                  exact ⟨rfl, G, hM, HR⟩
                · obtain ⟨h1, h2⟩ := HQ.out rfl
                  go_wp2_with fail
                  refine (HIH.out a r M G _ h1 h2 (by omega) (by omega) HR.out HP.out.s1 HP.out.s2 HP.out.x1).mono ?_
                  rintro z w2 ⟨rfl, G1, hm2, hw2⟩
                  have HR2 := Lib.hid hw2
                  have HM2 := Lib.hid hm2
                  clear hw2 hm2
                  go_wp2_with fail
                  go_meet
                  exact ⟨rfl, G1, HM2, HR2⟩
              case rest =>
                clear HQ HQ' HR
                obtain ⟨rfl, G1, HM1, HR⟩ := hcut
                go_upto_region 43 with fail
                go_cut [213] from 206 to 212 (fun x wx => ∃ q : Bool, x = .bool q ∧ Hid (q = true → M < e ∧ e < b) ∧ Hid (q = false → e ≤ M ∨ b ≤ e) ∧ wx = wc)
                case first =>
                  by_cases h1 : M < e
                  · by_cases h2 : e < b
                    · have t2 : decide ((M : Int) < (e : Int)) = true := decide_eq_true (by omega)
                      have t3 : decide ((e : Int) < (b : Int)) = true := decide_eq_true (by omega)
                      go_wp2_with fail
                      go_meet
                      exact ⟨true, rfl, Lib.hid (fun _ => ⟨h1, h2⟩), Lib.hid (fun c => by cases c), rfl⟩
                    · have t2 : decide ((M : Int) < (e : Int)) = true := decide_eq_true (by omega)
                      have t3 : decide ((e : Int) < (b : Int)) = false := decide_eq_false (by omega)
                      go_wp2_with fail
                      go_meet
                      exact ⟨false, rfl, Lib.hid (fun c => by cases c), Lib.hid (fun _ => .inr (by omega)), rfl⟩
                  · have t2 : decide ((M : Int) < (e : Int)) = false := decide_eq_false (by omega)
                    go_wp2_with fail
                    go_meet
                    exact ⟨false, rfl, Lib.hid (fun c => by cases c), Lib.hid (fun _ => .inl (by omega)), rfl⟩
                case rest =>
                  obtain ⟨q, rfl, HQ, HQ', rfl⟩ := hcut
                  rcases q with _ | _
                  · have hM := HP.out.skip2 HM1.out (HQ'.out rfl) q4 q5
                    go_wp2_with fail
                    go_end0
                    exact ⟨rfl, G1, HP.out.whole HM1.out hM (by omega) (by omega), HR.out⟩
                  · obtain ⟨h1, h2⟩ := HQ.out rfl
                    have o1 : ∀ k, M ≤ k → k < b → G1 k = G k := fun k hk _ => HM1.out.out k (.inr hk)
                    have HO1 := Lib.hid o1
                    clear o1
                    go_wp2_with fail
                    refine (HIH.out M e b G1 _ h1 h2 (by omega) (by omega) HR.out (srt_congr HP.out.s3 (fun k hk hk' => HO1.out k hk (by omega))) (srt_congr HP.out.s4 (fun k hk hk' => HO1.out k (by omega) hk')) (crs_congr HP.out.x2 (fun k hk hk' => HO1.out k hk hk'))).mono ?_
                    rintro z w2 ⟨rfl, G2, hm2, hw2⟩
                    go_wp2_with fail
                    go_end0
                    exact ⟨rfl, G2, HP.out.whole HM1.out hm2 (by omega) (by omega), hw2⟩

/-- slices.symMergeCmpFunc merges. -/
theorem sym_any (enc : α → Value) (cf : α → α → Int) (g : Nat) (cb : Array Value) (blk off cap sz : Nat) (d0 : Array α) (w0 : World) (eg : ∀ args w, (callFunc g args).run Tryz.prog w = .ok (.enter g args) w)
    (O : Ord prec Rr (ltOf cf)) (hcmp : CmpLays1 Tryz.prog g cb enc cf blk off sz w0) (R : Row1 enc w0 blk off d0) (hs : d0.size = sz) (hsz : sz < 4611686018427387904) :
    ∀ (N a m b : Nat) (f : Nat → α) (w : World), a < m → m < b → b - a ≤ N → b ≤ sz → Rw enc w0 blk off sz f w → Srt prec f a m → Srt prec f m b → Crs Rr f a m b →
      Calls Tryz.prog 93 #[.slice (some ⟨blk, off, none⟩) sz cap, .int .i64 a, .int .i64 m, .int .i64 b, .func (.func g) #[] cb] w (SymR prec enc w0 blk off sz f a b) := by
  intro N
  induction N with
  | zero => intro a m b f w h1 h2 h3; omega
  | succ N ih =>
    intro a m b f w h1 h2 h3 h4 hS hA hB hx
    by_cases ha : m = a + 1
    · exact sym_left enc cf g cb blk off cap sz a m b d0 f w0 w eg O hcmp R hs hS h4 hsz ha h2 hB hx
    · by_cases hb : b = m + 1
      · exact sym_right enc cf g cb blk off cap sz a m b d0 f w0 w eg O hcmp R hs hS h4 hsz hb (by omega) hA hx
      · exact sym_deep enc cf g cb blk off cap sz a m b d0 f w0 w eg O hcmp R hs hS h4 hsz (by omega) (by omega) hA hB hx (fun a' m' b' f' w' k1 k2 k3 k4 => ih a' m' b' f' w' k1 k2 (by omega) k4)
end
end Go.Proofs.YtmgglcfndhfceaaGreatDoor
/- Mathematics of a stable sort in blocks: the insertion sort keeps equals in their order; blocks that are merged. No condition. -/
set_option linter.unusedVariables false
namespace Go.Proofs.YtmgglcfndhfceaaGreatDoor.Mg
open Go Go.Sort Go.Proofs.YtmgglcfndhfceaaGreatDoor
variable {α : Type} [Inhabited α] {prec R : α → α → Prop} {lt : α → α → Bool}

/-- While the element at j is let down: the rest of [a, i] is in order, and it precedes all above it. -/
structure Dn (prec R : α → α → Prop) (f0 f : Nat → α) (a j i : Nat) : Prop where
  lo : Srt prec f a j
  hi : Srt prec f (j + 1) (i + 1)
  x : ∀ p q, a ≤ p → p < j → j + 1 ≤ q → q ≤ i → prec (f p) (f q)
  up : ∀ q, j + 1 ≤ q → q ≤ i → prec (f j) (f q)
  r : ∀ p, a ≤ p → p < j → R (f p) (f j)
  out : ∀ k, k < a ∨ i < k → f k = f0 k
  from_ : ∀ k, a ≤ k → k ≤ i → ∃ k', a ≤ k' ∧ k' ≤ i ∧ f k = f0 k'
omit [Inhabited α] in
theorem Dn.done {f0 f : Nat → α} {a j i : Nat} (O : Ord prec R lt) (h : Dn prec R f0 f a j i) (haj : a ≤ j) (hji : j ≤ i) (hs : j = a ∨ lt (f j) (f (j - 1)) = false) : Mrg prec f0 f a (i + 1) := by
  refine ⟨fun k hk => h.out k (by omega), fun k p q => by obtain ⟨k', c1, c2, c3⟩ := h.from_ k p (by omega); exact ⟨k', c1, by omega, c3⟩, fun p q h1 h2 h3 => ?_⟩
  have key : ∀ p, a ≤ p → p < j → prec (f p) (f j) := fun p h1 h2 => by
    rcases hs with hs | hs
    · omega
    · have e := O.yes _ _ (h.r (j - 1) (by omega) (by omega)) hs
      exact h.lo.le O h1 (by omega : p ≤ j - 1) (by omega) e
  rcases Nat.lt_trichotomy p j with hp | hp | hp
  · rcases Nat.lt_trichotomy q j with hq | hq | hq
    · exact h.lo p q h1 h2 hq
    · rw [hq]; exact key p h1 hp
    · exact h.x p q h1 hp (by omega) (by omega)
  · rw [hp]; exact h.up q (by omega) (by omega)
  · exact h.hi p q (by omega) h2 h3
omit [Inhabited α] in
theorem Dn.step {f0 f f' : Nat → α} {a j i : Nat} (O : Ord prec R lt) (h : Dn prec R f0 f a (j + 1) i) (haj : a ≤ j) (hji : j + 1 ≤ i) (ht : lt (f (j + 1)) (f j) = true)
    (e1 : f' j = f (j + 1)) (e2 : f' (j + 1) = f j) (e3 : ∀ k, k ≠ j → k ≠ j + 1 → f' k = f k) : Dn prec R f0 f' a j i := by
  have e := O.no _ _ (h.r j haj (by omega)) ht
  refine ⟨fun p q h1 h2 h3 => ?_, fun p q h1 h2 h3 => ?_, fun p q h1 h2 h3 h4 => ?_, fun q h1 h2 => ?_, fun p h1 h2 => ?_, fun k hk => ?_, fun k h1 h2 => ?_⟩
  · rw [e3 p (by omega) (by omega), e3 q (by omega) (by omega)]; exact h.lo p q h1 h2 (by omega)
  · rcases Nat.lt_or_ge (j + 1) p with hp | hp
    · rw [e3 p (by omega) (by omega), e3 q (by omega) (by omega)]; exact h.hi p q (by omega) h2 h3
    · obtain rfl : p = j + 1 := by omega
      rw [e2, e3 q (by omega) (by omega)]; exact h.x j q haj (by omega) (by omega) (by omega)
  · rw [e3 p (by omega) (by omega)]
    rcases Nat.lt_or_ge (j + 1) q with hq | hq
    · rw [e3 q (by omega) (by omega)]; exact h.x p q h1 (by omega) (by omega) h4
    · obtain rfl : q = j + 1 := by omega
      rw [e2]; exact h.lo p j h1 h2 (by omega)
  · rw [e1]
    rcases Nat.lt_or_ge (j + 1) q with hq | hq
    · rw [e3 q (by omega) (by omega)]; exact h.up q (by omega) h2
    · obtain rfl : q = j + 1 := by omega
      rw [e2]; exact e
  · rw [e1, e3 p (by omega) (by omega)]; exact h.r p h1 (by omega)
  · rw [e3 k (by omega) (by omega)]; exact h.out k hk
  · by_cases c1 : k = j
    · rw [c1, e1]; exact h.from_ (j + 1) (by omega) hji
    · by_cases c2 : k = j + 1
      · rw [c2, e2]; exact h.from_ j haj (by omega)
      · rw [e3 k c1 c2]; exact h.from_ k h1 h2
theorem inner_mrg (O : Ord prec R lt) (f0 : Nat → α) (a i : Nat) : ∀ (j : Nat) (d : Array α), a ≤ j → j ≤ i → i < d.size → Dn prec R f0 (fn d) a j i → (insInner lt a j d).size = d.size ∧ Mrg prec f0 (fn (insInner lt a j d)) a (i + 1) := by
  intro j
  induction j with
  | zero => intro d h1 h2 h3 h; exact ⟨rfl, h.done O h1 h2 (.inl (by omega))⟩
  | succ j ih =>
    intro d h1 h2 h3 h
    by_cases c : (decide (j + 1 > a) && lt d[j + 1]! d[j]!) = true
    · have e : insInner lt a (j + 1) d = insInner lt a j (swp d (j + 1) j) := by rw [insInner, if_pos c]
      rw [e]
      simp only [Bool.and_eq_true, decide_eq_true_eq] at c
      have hz := swp_size d (j + 1) j
      obtain ⟨s1, s2⟩ := ih (swp d (j + 1) j) (by omega) (by omega) (by omega) (h.step O (by omega) h2 c.2
        (by show (swp d (j + 1) j)[j]! = _; rw [swp_get d (by omega) (by omega), if_pos rfl]; rfl)
        (by show (swp d (j + 1) j)[j + 1]! = _; rw [swp_get d (by omega) (by omega), if_neg (by omega), if_pos rfl]; rfl)
        (fun k k1 k2 => by show (swp d (j + 1) j)[k]! = _; rw [swp_get d (by omega) (by omega), if_neg k1, if_neg k2]; rfl))
      exact ⟨s1.trans hz, s2⟩
    · have e : insInner lt a (j + 1) d = d := by rw [insInner, if_neg c]
      rw [e]
      refine ⟨rfl, h.done O h1 h2 ?_⟩
      rcases Nat.lt_or_ge a (j + 1) with c2 | c2
      · right
        cases c3 : lt d[j + 1]! d[j]! with
        | false => exact c3
        | true => exact absurd (by simp [c3]; omega) c
      · left; omega
omit [Inhabited α] in
theorem Mrg.trans {f g h : Nat → α} {a b b' : Nat} (h1 : Mrg prec f g a b) (h2 : Mrg prec g h a b') (hb : b ≤ b') : Mrg prec f h a b' :=
  ⟨fun k hk => (h2.out k hk).trans (h1.out k (by omega)), fun k p q => by
    obtain ⟨k', c1, c2, c3⟩ := h2.from_ k p q
    rcases Nat.lt_or_ge k' b with c | c
    · obtain ⟨k2, d1, d2, d3⟩ := h1.from_ k' c1 c
      exact ⟨k2, d1, by omega, c3.trans d3⟩
    · exact ⟨k', c1, c2, c3.trans (h1.out k' (.inr c))⟩, h2.srt⟩
theorem outer_mrg (O : Ord prec R lt) (a b : Nat) (f0 : Nat → α) (hR : ∀ i j, a ≤ i → i < j → j < b → R (f0 i) (f0 j)) :
    ∀ (N i : Nat) (d : Array α), b - i ≤ N → a < i → i ≤ b → b ≤ d.size → Mrg prec f0 (fn d) a i → (insOuter lt a b i d).size = d.size ∧ Mrg prec f0 (fn (insOuter lt a b i d)) a b := by
  intro N
  induction N with
  | zero =>
    intro i d h1 h2 h3 h4 h
    rw [insOuter, if_neg (by omega)]
    obtain rfl : i = b := by omega
    exact ⟨rfl, h⟩
  | succ N ih =>
    intro i d h1 h2 h3 h4 h
    rw [insOuter]
    split
    · rename_i hib
      have D : Dn prec R (fn d) (fn d) a i i := by
        refine ⟨h.srt, fun p q _ _ _ => by omega, fun p q _ _ _ _ => by omega, fun q _ _ => by omega, fun p h5 h6 => ?_, fun _ _ => rfl, fun k c1 c2 => ⟨k, c1, c2, rfl⟩⟩
        obtain ⟨k', c1, c2, c3⟩ := h.from_ p h5 h6
        rw [c3, h.out i (.inr (Nat.le_refl _))]
        exact hR k' i c1 c2 hib
      obtain ⟨s1, s2⟩ := inner_mrg O (fn d) a i i d (by omega) (Nat.le_refl _) (by omega) D
      obtain ⟨u1, u2⟩ := ih (i + 1) (insInner lt a i d) (by omega) (by omega) (by omega) (by omega) (h.trans s2 (by omega))
      exact ⟨u1.trans s1, u2⟩
    · obtain rfl : i = b := by omega
      exact ⟨rfl, h⟩
/-- The insertion sort keeps equals in their order. -/
theorem ins_mrg (O : Ord prec R lt) (d : Array α) (a b : Nat) (hab : a ≤ b) (hb : b ≤ d.size) (hR : ∀ i j, a ≤ i → i < j → j < b → R (fn d i) (fn d j)) : (insertionSort lt d a b).size = d.size ∧ Mrg prec (fn d) (fn (insertionSort lt d a b)) a b := by
  unfold insertionSort
  have triv : ∀ c, c ≤ a + 1 → Mrg prec (fn d) (fn d) a c := fun c hc => ⟨fun _ _ => rfl, fun k p q => ⟨k, p, q, rfl⟩, fun i j _ _ _ => by omega⟩
  rcases Nat.lt_or_ge a b with h | h
  · exact outer_mrg O a b (fn d) hR (b - (a + 1)) (a + 1) d (by omega) (by omega) (by omega) hb (triv _ (Nat.le_refl _))
  · rw [insOuter, if_neg (by omega)]
    exact ⟨rfl, triv b (by omega)⟩

/-- In order where E says 'of one block', the first ahead of the second elsewhere. -/
def Blk (prec R : α → α → Prop) (f : Nat → α) (E : Nat → Nat → Prop) (n : Nat) : Prop := ∀ i j, i < j → j < n → (E i j → prec (f i) (f j)) ∧ (¬ E i j → R (f i) (f j))
omit [Inhabited α] in
theorem Blk.merge {f g : Nat → α} {E E' : Nat → Nat → Prop} {n a b : Nat} (h : Blk prec R f E n) (hM : Mrg prec f g a b) (hb : b ≤ n) (hl : ∀ i j, i < a → a ≤ j → j < b → ¬ E i j) (hr : ∀ i j, a ≤ i → i < b → b ≤ j → j < n → ¬ E i j)
    (he : ∀ i j, i < j → j < n → (E' i j ↔ E i j ∨ (a ≤ i ∧ j < b))) : Blk prec R g E' n := by
  intro i j hij hj
  have hE := he i j hij hj
  by_cases hi : a ≤ i ∧ i < b
  · by_cases hj2 : j < b
    · exact ⟨fun _ => hM.srt i j hi.1 hij hj2, fun c => absurd (hE.2 (.inr ⟨hi.1, hj2⟩)) c⟩
    · obtain ⟨i', c1, c2, c3⟩ := hM.from_ i hi.1 hi.2
      rw [c3, hM.out j (.inr (by omega))]
      have := hr i j hi.1 hi.2 (by omega) hj
      exact ⟨fun c => by rcases hE.1 c with c | c; exact absurd c this; omega, fun _ => (h i' j (by omega) hj).2 (hr i' j c1 c2 (by omega) hj)⟩
  · by_cases hj2 : a ≤ j ∧ j < b
    · obtain ⟨j', c1, c2, c3⟩ := hM.from_ j hj2.1 hj2.2
      rw [c3, hM.out i (by omega)]
      have := hl i j (by omega) hj2.1 hj2.2
      exact ⟨fun c => by rcases hE.1 c with c | c; exact absurd c this; omega, fun _ => (h i j' (by omega) (by omega)).2 (hl i j' (by omega) c1 c2)⟩
    · rw [hM.out i (by omega), hM.out j (by omega)]
      refine ⟨fun c => ?_, fun c => (h i j hij hj).2 (fun d => c (hE.2 (.inl d)))⟩
      rcases hE.1 c with c | c
      · exact (h i j hij hj).1 c
      · omega
omit [Inhabited α] in
theorem Blk.congr {f : Nat → α} {E E' : Nat → Nat → Prop} {n : Nat} (h : Blk prec R f E n) (he : ∀ i j, i < j → j < n → (E' i j ↔ E i j)) : Blk prec R f E' n := fun i j hij hj =>
  ⟨fun c => (h i j hij hj).1 ((he i j hij hj).1 c), fun c => (h i j hij hj).2 (fun d => c ((he i j hij hj).2 d))⟩
end Go.Proofs.YtmgglcfndhfceaaGreatDoor.Mg
