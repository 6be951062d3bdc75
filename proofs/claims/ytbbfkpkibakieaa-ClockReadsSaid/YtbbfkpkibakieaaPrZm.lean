/-
  Layer 4 (clock): mathematics of spans: the offset at an instant, the least instant of a local minute, the greatest local minute until an instant, the instants of a local minute. Plain lists and integers.
-/
import Derived.Test.YtbbfkpkibakieaaPrZg
namespace Go.Proofs.Ytbbfkpkibakieaa
open Go Go.RowKit Go.Lib

/-- Ascending changes behind the instant b. -/
def Asc : Int → List (Int × Int) → Prop
  | _, [] => True
  | b, c :: r => b < c.1 ∧ 0 ≤ c.1 ∧ c.1 ≤ 120968639 ∧ -840 ≤ c.2 ∧ c.2 ≤ 840 ∧ Asc c.1 r
theorem vL_asc (b : Int) (cs : List (Int × Int)) (h : vL b cs = 0) : Asc b cs := by
  induction cs generalizing b with
  | nil => trivial
  | cons c r ih =>
    unfold vL at h
    split at h
    · cases h
    · split at h
      · cases h
      · exact ⟨by omega, by omega, by omega, by omega, by omega, ih _ h⟩
theorem asc_vL (b : Int) (cs : List (Int × Int)) (h : Asc b cs) : vL b cs = 0 := by
  induction cs generalizing b with
  | nil => rfl
  | cons c r ih =>
    obtain ⟨h1, h2, h3, h4, h5, h6⟩ := h
    unfold vL
    rw [if_neg (by omega), if_neg (by omega)]
    exact ih _ h6

/-- The parts of a zone in ascending order; the first one may be empty. -/
def sg : Int → Int → List (Int × Int) → List Span
  | f, o, [] => [(f, END, o)]
  | f, o, c :: r => (f, c.1, o) :: sg c.1 c.2 r
theorem sg_rev (f o : Int) (cs : List (Int × Int)) : spP END cs.reverse ++ [(f, toO END cs.reverse, o)] = (sg f o cs).reverse := by
  induction cs generalizing f o with
  | nil => rfl
  | cons c r ih => rw [List.reverse_cons, spP_snoc, toO_snoc, ih]; simp [sg]
theorem sg_length (f o : Int) (cs : List (Int × Int)) : (sg f o cs).length = cs.length + 1 := by
  induction cs generalizing f o with
  | nil => rfl
  | cons c r ih => simp [sg, ih]

/-- Spans from 'to' down to 0, without a gap. -/
def Desc : Int → List Span → Prop
  | to, [] => to = 0
  | to, s :: r => s.2.1 = to ∧ 0 ≤ s.1 ∧ s.1 < to ∧ -840 ≤ s.2.2 ∧ s.2.2 ≤ 840 ∧ Desc s.1 r
theorem desc_ok {to : Int} {L : List Span} (h : Desc to L) (ht : to ≤ END) : ∀ s ∈ L, SpOk s := by
  induction L generalizing to with
  | nil => intro s hs; simp at hs
  | cons c r ih =>
    obtain ⟨h1, h2, h3, h4, h5, h6⟩ := h
    intro s hs
    rcases List.mem_cons.1 hs with rfl | hs
    · exact ⟨h2, by omega, by omega, h4, h5⟩
    · exact ih h6 (by omega) s hs
theorem desc_nonneg {to : Int} {L : List Span} (h : Desc to L) : 0 ≤ to := by
  cases L with
  | nil => simp only [Desc] at h; omega
  | cons c r => obtain ⟨h1, h2, h3, _⟩ := h; omega
/-- The part before the first change, if there is one. -/
def lastP (to off : Int) : List Span := if 0 < to then [(0, to, off)] else []
theorem lastP_desc {to off : Int} (h : 0 ≤ to) (h1 : -840 ≤ off) (h2 : off ≤ 840) : Desc to (lastP to off) := by
  unfold lastP
  by_cases h0 : 0 < to
  · rw [if_pos h0]; exact ⟨rfl, Int.le_refl _, h0, h1, h2, rfl⟩
  · rw [if_neg h0]; simp only [Desc]; omega
theorem spL_eq (off : Int) (cs : List (Int × Int)) : spL off cs = spP END cs.reverse ++ lastP (toO END cs.reverse) off := rfl
/-- A zone's spans, its parts given from the last one. -/
theorem desc_aux (r : List (Int × Int)) : ∀ (to : Int) (A : List Span), (∀ (L : List Span) (to' : Int), Desc to' L → to' = to → Desc END (A ++ L)) →
    (∀ (b off : Int), -1 ≤ b → Asc b r.reverse → (∀ c ∈ r, c.1 < to) → 0 ≤ to → -840 ≤ off → off ≤ 840 →
      Desc END (A ++ (spP to r ++ lastP (toO to r) off))) := by
  induction r with
  | nil =>
    intro to A hA b off hb _ _ ht h1 h2
    refine hA _ to ?_ rfl
    exact lastP_desc ht h1 h2
  | cons c r ih =>
    intro to A hA b off hb hasc hlt ht h1 h2
    have key : ∀ (l : List (Int × Int)) (b : Int), -1 ≤ b → Asc b (l ++ [c]) → Asc b l ∧ 0 ≤ c.1 ∧ -840 ≤ c.2 ∧ c.2 ≤ 840 ∧ ∀ d ∈ l, d.1 < c.1 := by
      intro l
      induction l with
      | nil => intro b hb h; obtain ⟨a1, a2, a3, a4, a5, _⟩ := h; exact ⟨trivial, a2, a4, a5, fun d hd => by simp at hd⟩
      | cons d l ih =>
        intro b hb h
        obtain ⟨a1, a2, a3, a4, a5, a6⟩ := h
        obtain ⟨b1, b2, b3, b4, b5⟩ := ih d.1 (by omega) a6
        refine ⟨⟨a1, a2, a3, a4, a5, b1⟩, b2, b3, b4, fun e he => ?_⟩
        rcases List.mem_cons.1 he with rfl | he
        · cases l with
          | nil => exact a6.1
          | cons q l => exact Int.lt_trans b1.1 (b5 q (by simp))
        · exact b5 e he
    rw [List.reverse_cons] at hasc
    obtain ⟨k1, k2, k3, k4, k5⟩ := key _ b hb hasc
    have hc := hlt c (by simp)
    have e := ih c.1 (A ++ [(c.1, to, c.2)]) (fun L to' hL hto => by
      rw [List.append_assoc]
      exact hA _ to ⟨rfl, k2, hc, k3, k4, by subst hto; exact hL⟩ rfl) b off hb k1 (fun d hd => k5 d (by simpa using hd)) k2 h1 h2
    simpa [spP, toO] using e
theorem desc_spL (off : Int) (cs : List (Int × Int)) (h : vE off cs = 0) : Desc END (spL off cs) := by
  unfold vE at h
  split at h
  · cases h
  · split at h
    · cases h
    · have ha := vL_asc _ _ h
      have hlt : ∀ (l : List (Int × Int)) (b : Int), Asc b l → ∀ c ∈ l, c.1 ≤ 120968639 := by
        intro l
        induction l with
        | nil => intro b _ c hc; simp at hc
        | cons d l ih =>
          intro b h c hc
          rcases List.mem_cons.1 hc with rfl | hc
          · exact h.2.2.1
          · exact ih _ h.2.2.2.2.2 c hc
      have := desc_aux cs.reverse END [] (fun L to' hL hto => by subst hto; exact hL) (-1) off (by omega) (by rw [List.reverse_reverse]; exact ha) (fun c hc => by have := hlt cs _ ha c (by simpa using hc); unfold END; omega) (by unfold END; omega) (by omega) (by omega)
      simpa [spL_eq] using this
theorem vE_len {off : Int} {cs : List (Int × Int)} (h : vE off cs = 0) : cs.length ≤ 64 := by
  unfold vE at h
  split at h
  · cases h
  · omega
theorem spL_ok {off : Int} {cs : List (Int × Int)} (h : vE off cs = 0) : ∀ s ∈ spL off cs, SpOk s := desc_ok (desc_spL off cs h) (Int.le_refl _)

/-- The offset at an instant is that of a span, so it is in range. -/
theorem offV_bd {to : Int} {L : List Span} (h : Desc to L) (t : Int) : -840 ≤ offV t L ∧ offV t L ≤ 840 := by
  induction L generalizing to with
  | nil => simp [offV]
  | cons s r ih =>
    obtain ⟨h1, h2, h3, h4, h5, h6⟩ := h
    unfold offV
    split
    · exact ⟨h4, h5⟩
    · exact ih h6

/-- First: the least instant whose local minute is at least l. -/
theorem fF_spec (l : Int) (L : List Span) : ∀ (to f : Int), Desc to L → to ≤ f →
    (L.foldl (stF l) f < to → 0 ≤ L.foldl (stF l) f ∧ l ≤ L.foldl (stF l) f + offV (L.foldl (stF l) f) L) ∧ (¬ L.foldl (stF l) f < to → L.foldl (stF l) f = f) ∧
    (∀ t, 0 ≤ t → t < to → t < L.foldl (stF l) f → t + offV t L < l) := by
  induction L with
  | nil =>
    intro to f h hf
    simp only [Desc] at h
    simp only [List.foldl_nil]
    exact ⟨fun h' => by omega, by simp, fun t h1 h2 _ => by omega⟩
  | cons s r ih =>
    intro to f h hf
    obtain ⟨h1, h2, h3, h4, h5, h6⟩ := h
    have hf' : s.1 ≤ stF l f s := by unfold stF; split <;> split <;> omega
    obtain ⟨a1, a2, a3⟩ := ih s.1 (stF l f s) h6 hf'
    simp only [List.foldl_cons]
    generalize r.foldl (stF l) (stF l f s) = x at *
    have ho : ∀ t, offV t (s :: r) = if s.1 ≤ t then s.2.2 else offV t r := fun t => rfl
    have hst : stF l f s = if s.1 < l - s.2.2 then (if l - s.2.2 < s.2.1 then l - s.2.2 else f) else (if s.1 < s.2.1 then s.1 else f) := rfl
    by_cases hx : x < s.1
    · obtain ⟨b1, b2⟩ := a1 hx
      refine ⟨fun _ => ⟨b1, by rw [ho, if_neg (by omega)]; exact b2⟩, fun hn => by omega, fun t t0 t1 t2 => ?_⟩
      rw [ho, if_neg (by omega)]; exact a3 t t0 (by omega) t2
    · have ex := a2 hx
      rw [← ex] at hst
      refine ⟨fun hlt => ⟨by omega, ?_⟩, fun hn => ?_, fun t t0 t1 t2 => ?_⟩
      · rw [ho, if_pos (by omega)]
        split at hst
        · split at hst <;> omega
        · split at hst <;> omega
      · split at hst
        · split at hst <;> omega
        · split at hst <;> omega
      · rw [ho]
        split
        · split at hst
          · split at hst <;> omega
          · split at hst <;> omega
        · exact a3 t t0 (by omega) (by omega)

/-- Day: the greatest local minute until t. -/
theorem gG_spec (t : Int) (L : List Span) : ∀ (to g : Int), Desc to L →
    (g ≤ L.foldl (stG t) g) ∧ (∀ u, 0 ≤ u → u < to → u ≤ t → u + offV u L ≤ L.foldl (stG t) g) ∧ (L.foldl (stG t) g = g ∨ ∃ u, 0 ≤ u ∧ u < to ∧ u ≤ t ∧ L.foldl (stG t) g = u + offV u L) := by
  induction L with
  | nil =>
    intro to g h
    simp only [Desc] at h
    simp only [List.foldl_nil]
    exact ⟨Int.le_refl _, fun u h1 h2 _ => by omega, by simp⟩
  | cons s r ih =>
    intro to g h
    obtain ⟨h1, h2, h3, h4, h5, h6⟩ := h
    obtain ⟨a1, a2, a3⟩ := ih s.1 (stG t g s) h6
    simp only [List.foldl_cons]
    generalize r.foldl (stG t) (stG t g s) = x at *
    have ho : ∀ t, offV t (s :: r) = if s.1 ≤ t then s.2.2 else offV t r := fun t => rfl
    have hst : stG t g s = if s.1 ≤ t then (if t ≤ s.2.1 - 1 then (if g < t + s.2.2 then t + s.2.2 else g) else (if g < s.2.1 - 1 + s.2.2 then s.2.1 - 1 + s.2.2 else g)) else g := rfl
    generalize stG t g s = g' at *
    refine ⟨?_, fun u u0 u1 u2 => ?_, ?_⟩
    · split at hst
      · split at hst <;> split at hst <;> omega
      · omega
    · rw [ho]
      split
      · rw [if_pos (by omega)] at hst
        split at hst <;> split at hst <;> omega
      · exact a2 u u0 (by omega) u2
    · rcases a3 with a3 | ⟨u, u0, u1, u2, u3⟩
      · by_cases ht : s.1 ≤ t
        · rw [if_pos ht] at hst
          split at hst
          · split at hst
            · exact .inr ⟨t, by omega, by omega, by omega, by rw [ho, if_pos ht]; omega⟩
            · exact .inl (by omega)
          · split at hst
            · exact .inr ⟨s.2.1 - 1, by omega, by omega, by omega, by rw [ho, if_pos (by omega)]; omega⟩
            · exact .inl (by omega)
        · rw [if_neg ht] at hst; exact .inl (by omega)
      · exact .inr ⟨u, u0, by omega, u2, by rw [ho, if_neg (by omega)]; exact u3⟩

/-- The instants of a local minute, from the last one to the first one. -/
def iL (l : Int) (L : List Span) : List Int := L.filterMap fun s => if s.1 ≤ l - s.2.2 ∧ l - s.2.2 < s.2.1 then some (l - s.2.2) else none
theorem iL_spec (l : Int) (L : List Span) : ∀ (to : Int), Desc to L →
    (∀ x ∈ iL l L, 0 ≤ x ∧ x < to ∧ x + offV x L = l) ∧ (∀ x, 0 ≤ x → x < to → x + offV x L = l → x ∈ iL l L) ∧ (iL l L).Pairwise (· > ·) := by
  induction L with
  | nil =>
    intro to h
    simp only [Desc] at h
    exact ⟨fun x hx => by simp [iL] at hx, fun x h1 h2 _ => by omega, by simp [iL]⟩
  | cons s r ih =>
    intro to h
    obtain ⟨h1, h2, h3, h4, h5, h6⟩ := h
    obtain ⟨a1, a2, a3⟩ := ih s.1 h6
    have ho : ∀ t, offV t (s :: r) = if s.1 ≤ t then s.2.2 else offV t r := fun t => rfl
    by_cases hc : s.1 ≤ l - s.2.2 ∧ l - s.2.2 < s.2.1
    · have e : iL l (s :: r) = (l - s.2.2) :: iL l r := by unfold iL; rw [List.filterMap_cons, if_pos hc]
      rw [e]
      refine ⟨fun x hx => ?_, fun x x0 x1 x2 => ?_, List.pairwise_cons.2 ⟨fun y hy => by have := a1 y hy; show y < l - s.2.2; omega, a3⟩⟩
      · rcases List.mem_cons.1 hx with rfl | hx
        · exact ⟨by omega, by omega, by rw [ho, if_pos hc.1]; omega⟩
        · obtain ⟨b1, b2, b3⟩ := a1 x hx
          exact ⟨b1, by omega, by rw [ho, if_neg (by omega)]; exact b3⟩
      · rw [ho] at x2
        split at x2
        · exact List.mem_cons.2 (.inl (by omega))
        · exact List.mem_cons.2 (.inr (a2 x x0 (by omega) x2))
    · have e : iL l (s :: r) = iL l r := by unfold iL; rw [List.filterMap_cons, if_neg hc]
      rw [e]
      refine ⟨fun x hx => ?_, fun x x0 x1 x2 => ?_, a3⟩
      · obtain ⟨b1, b2, b3⟩ := a1 x hx
        exact ⟨b1, by omega, by rw [ho, if_neg (by omega)]; exact b3⟩
      · rw [ho] at x2
        split at x2
        · omega
        · exact a2 x x0 (by omega) x2
theorem iL_length (l : Int) (L : List Span) : (iL l L).length ≤ L.length := List.length_filterMap_le _ _
end Go.Proofs.Ytbbfkpkibakieaa
