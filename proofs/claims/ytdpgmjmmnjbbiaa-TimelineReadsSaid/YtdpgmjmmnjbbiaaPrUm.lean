/-
  Layer 6 (timeline): mathematics: changes and their order; what counts at a knowledge; the value of a day; slices and differences; the union of two sets. No condition.
-/
import Derived.KernelRfl
namespace Go.Proofs.Ytdpgmjmmnjbbiaa.Tl
set_option linter.unusedVariables false

/-- A change of a value. -/
structure Chg where
  fr : Int
  kn : Int
  va : Int
  de : Bool
instance : Inhabited Chg := ⟨⟨0, 0, 0, false⟩⟩
theorem Chg.ext' {a b : Chg} (h1 : a.fr = b.fr) (h2 : a.kn = b.kn) (h3 : a.va = b.va) (h4 : a.de = b.de) : a = b := by
  cases a; cases b; simp_all
instance : DecidableEq Chg := fun a b =>
  if h : a.fr = b.fr ∧ a.kn = b.kn ∧ a.va = b.va ∧ a.de = b.de then isTrue (Chg.ext' h.1 h.2.1 h.2.2.1 h.2.2.2) else isFalse fun e => h (by subst e; exact ⟨rfl, rfl, rfl, rfl⟩)

def cmpI (a b : Int) : Int := if a < b then -1 else if b < a then 1 else 0
/-- The order of changes: From, Known, Delete, Value. -/
def cmpC (a b : Chg) : Int :=
  if cmpI a.fr b.fr ≠ 0 then cmpI a.fr b.fr else if cmpI a.kn b.kn ≠ 0 then cmpI a.kn b.kn else if a.de = b.de then cmpI a.va b.va else if b.de then -1 else 1
/-- a before b. -/
def lt (a b : Chg) : Prop := a.fr < b.fr ∨ (a.fr = b.fr ∧ (a.kn < b.kn ∨ (a.kn = b.kn ∧ ((a.de = false ∧ b.de = true) ∨ (a.de = b.de ∧ a.va < b.va)))))
theorem cmpI_neg (a b : Int) : cmpI a b < 0 ↔ a < b := by unfold cmpI; split <;> (try split) <;> omega
theorem cmpI_pos (a b : Int) : 0 < cmpI a b ↔ b < a := by unfold cmpI; split <;> (try split) <;> omega
theorem cmpI_zero (a b : Int) : cmpI a b = 0 ↔ a = b := by unfold cmpI; split <;> (try split) <;> omega
theorem cmpC_neg (a b : Chg) : cmpC a b < 0 ↔ lt a b := by
  unfold cmpC lt
  have h1 := cmpI_neg a.fr b.fr; have h2 := cmpI_zero a.fr b.fr
  have h3 := cmpI_neg a.kn b.kn; have h4 := cmpI_zero a.kn b.kn
  have h5 := cmpI_neg a.va b.va
  cases ha : a.de <;> cases hb : b.de <;> simp <;> (split <;> (try split)) <;> omega
theorem cmpC_pos (a b : Chg) : 0 < cmpC a b ↔ lt b a := by
  unfold cmpC lt
  have h1 := cmpI_pos a.fr b.fr; have h2 := cmpI_zero a.fr b.fr
  have h3 := cmpI_pos a.kn b.kn; have h4 := cmpI_zero a.kn b.kn
  have h5 := cmpI_pos a.va b.va
  cases ha : a.de <;> cases hb : b.de <;> simp <;> (split <;> (try split)) <;> omega
theorem cmpC_zero (a b : Chg) : cmpC a b = 0 ↔ a = b := by
  constructor
  · intro h
    unfold cmpC at h
    have h2 := cmpI_zero a.fr b.fr
    have h4 := cmpI_zero a.kn b.kn
    have h5 := cmpI_zero a.va b.va
    cases ha : a.de <;> cases hb : b.de <;> simp [ha, hb] at h <;> (split at h <;> (try split at h)) <;> first | omega | (refine Chg.ext' ?_ ?_ ?_ ?_ <;> first | omega | simp [ha, hb])
  · rintro rfl; simp [cmpC, cmpI]
theorem lt_irrefl (a : Chg) : ¬ lt a a := by unfold lt; cases a.de <;> simp
theorem lt_trans {a b c : Chg} (h : lt a b) (h' : lt b c) : lt a c := by
  unfold lt at *
  cases ha : a.de <;> cases hb : b.de <;> cases hc : c.de <;> simp_all <;> omega
theorem lt_tri (a b : Chg) : lt a b ∨ a = b ∨ lt b a := by
  rcases Int.lt_trichotomy (cmpC a b) 0 with h | h | h
  · exact .inl ((cmpC_neg a b).1 h)
  · exact .inr (.inl ((cmpC_zero a b).1 h))
  · exact .inr (.inr ((cmpC_pos a b).1 h))
theorem lt_asymm {a b : Chg} (h : lt a b) : ¬ lt b a := fun h' => lt_irrefl a (lt_trans h h')
instance (a b : Chg) : Decidable (lt a b) := decidable_of_iff _ (cmpC_neg a b)

/-! ## Strictly ascending lists -/
theorem asc_unique {α : Type} {r : α → α → Prop} (irr : ∀ a, ¬ r a a) (tr : ∀ {a b c}, r a b → r b c → r a c) : ∀ (l m : List α), l.Pairwise r → m.Pairwise r → (∀ x, x ∈ l ↔ x ∈ m) → l = m
  | [], [], _, _, _ => rfl
  | [], b :: m, _, _, h => absurd ((h b).2 (List.mem_cons_self ..)) (by simp)
  | a :: l, [], _, _, h => absurd ((h a).1 (List.mem_cons_self ..)) (by simp)
  | a :: l, b :: m, hl, hm, h => by
    rw [List.pairwise_cons] at hl hm
    have e : a = b := by
      rcases List.mem_cons.1 ((h a).1 (List.mem_cons_self ..)) with e | e
      · exact e
      · rcases List.mem_cons.1 ((h b).2 (List.mem_cons_self ..)) with e' | e'
        · exact e'.symm
        · exact absurd (tr (hm.1 a e) (hl.1 b e')) (irr _)
    subst e
    congr 1
    refine asc_unique irr tr l m hl.2 hm.2 fun x => ⟨fun hx => ?_, fun hx => ?_⟩
    · rcases List.mem_cons.1 ((h x).1 (List.mem_cons_of_mem _ hx)) with e | e
      · subst e; exact absurd (hl.1 _ hx) (irr _)
      · exact e
    · rcases List.mem_cons.1 ((h x).2 (List.mem_cons_of_mem _ hx)) with e | e
      · subst e; exact absurd (hm.1 _ hx) (irr _)
      · exact e

/-! ## Compact: of a run of alike neighbours the first one -/
/-- slices.Compact, slices.CompactFunc: what is not alike the element before it. -/
def comp {α : Type} (eq : α → α → Bool) : List α → List α
  | [] => []
  | a :: r => a :: go eq a r
where go {α : Type} (eq : α → α → Bool) : α → List α → List α
  | _, [] => []
  | p, b :: r => if eq b p then go eq b r else b :: go eq b r
theorem mem_go {α : Type} (eq : α → α → Bool) : ∀ (p : α) (l : List α) (x : α), x ∈ comp.go eq p l → x ∈ l
  | _, [], _, h => by simp [comp.go] at h
  | p, b :: r, x, h => by
    rw [comp.go] at h
    split at h
    · exact List.mem_cons_of_mem _ (mem_go eq b r x h)
    · rcases List.mem_cons.1 h with rfl | h
      · exact List.mem_cons_self ..
      · exact List.mem_cons_of_mem _ (mem_go eq b r x h)
theorem mem_comp {α : Type} (eq : α → α → Bool) (l : List α) (x : α) (h : x ∈ comp eq l) : x ∈ l := by
  cases l with
  | nil => simp [comp] at h
  | cons a r =>
    rw [comp] at h
    rcases List.mem_cons.1 h with rfl | h
    · exact List.mem_cons_self ..
    · exact List.mem_cons_of_mem _ (mem_go eq a r x h)
theorem go_sub {α : Type} (eq : α → α → Bool) : ∀ (p : α) (l : List α), (comp.go eq p l).Sublist l
  | _, [] => by simp [comp.go]
  | p, b :: r => by
    rw [comp.go]
    split
    · exact (go_sub eq b r).cons _
    · exact (go_sub eq b r).cons_cons _
theorem comp_sub {α : Type} (eq : α → α → Bool) (l : List α) : (comp eq l).Sublist l := by
  cases l with
  | nil => simp [comp]
  | cons a r => exact (go_sub eq a r).cons_cons _
theorem comp_length {α : Type} (eq : α → α → Bool) (l : List α) : (comp eq l).length ≤ l.length := (comp_sub eq l).length_le
/-- Of an ordered list whose alike elements are one: compact keeps every element. -/
theorem mem_go_of {α : Type} [DecidableEq α] : ∀ (p : α) (l : List α) (x : α), x ∈ l → x ≠ p → (∀ y ∈ l, True) → x ∈ comp.go (fun a b => decide (a = b)) p l
  | _, [], _, h, _, _ => by simp at h
  | p, b :: r, x, h, hp, _ => by
    rw [comp.go]
    by_cases e : b = p
    · subst e
      rw [if_pos (by simp)]
      rcases List.mem_cons.1 h with rfl | h
      · exact absurd rfl hp
      · exact mem_go_of b r x h hp (fun _ _ => trivial)
    · rw [if_neg (by simpa using e)]
      by_cases e' : x = b
      · exact e' ▸ List.mem_cons_self ..
      · rcases List.mem_cons.1 h with rfl | h
        · exact absurd rfl e'
        · exact List.mem_cons_of_mem _ (mem_go_of b r x h e' (fun _ _ => trivial))
theorem mem_comp_iff {α : Type} [DecidableEq α] (l : List α) (x : α) : x ∈ comp (fun a b => decide (a = b)) l ↔ x ∈ l := by
  refine ⟨mem_comp _ l x, fun h => ?_⟩
  cases l with
  | nil => simp at h
  | cons a r =>
    rw [comp]
    by_cases e : x = a
    · exact e ▸ List.mem_cons_self ..
    · rcases List.mem_cons.1 h with rfl | h
      · exact absurd rfl e
      · exact List.mem_cons_of_mem _ (mem_go_of a r x h e (fun _ _ => trivial))
theorem go_strict {α : Type} [DecidableEq α] {r : α → α → Prop} (as : ∀ {a b}, r a b → ¬ r b a) : ∀ (p : α) (l : List α), (p :: l).Pairwise (fun a b => ¬ r b a) → (∀ a b, r a b ∨ a = b ∨ r b a) → (tr : ∀ {a b c}, r a b → r b c → r a c) →
    (comp.go (fun a b => decide (a = b)) p l).Pairwise r ∧ ∀ x ∈ comp.go (fun a b => decide (a = b)) p l, r p x
  | p, [], _, _, _ => by simp [comp.go]
  | p, b :: l, h, tri, tr => by
    rw [List.pairwise_cons] at h
    have ih := go_strict as b l h.2 tri tr
    rw [comp.go]
    by_cases e : b = p
    · subst e; rw [if_pos (by simp)]; exact ih
    · rw [if_neg (by simpa using e)]
      have hpb : r p b := by
        rcases tri p b with h1 | h1 | h1
        · exact h1
        · exact absurd h1.symm e
        · exact absurd h1 (h.1 b (List.mem_cons_self ..))
      refine ⟨List.pairwise_cons.2 ⟨ih.2, ih.1⟩, fun x hx => ?_⟩
      rcases List.mem_cons.1 hx with rfl | hx
      · exact hpb
      · exact tr hpb (ih.2 x hx)
/-- Compact of an ordered list is strictly ascending. -/
theorem comp_strict {α : Type} [DecidableEq α] {r : α → α → Prop} (as : ∀ {a b}, r a b → ¬ r b a) (tri : ∀ a b, r a b ∨ a = b ∨ r b a) (tr : ∀ {a b c}, r a b → r b c → r a c) (l : List α) (h : l.Pairwise (fun a b => ¬ r b a)) :
    (comp (fun a b => decide (a = b)) l).Pairwise r := by
  cases l with
  | nil => simp [comp]
  | cons a l =>
    have := go_strict as a l h tri tr
    exact List.pairwise_cons.2 ⟨this.2, this.1⟩

/-! ## What counts at a knowledge -/
def known (l : List Chg) (k : Int) : List Chg := l.filter fun c => !decide (k < c.kn)
/-- Descending by the order of changes. -/
def dsc (l : List Chg) : List Chg := l.mergeSort fun x y => !decide (cmpC x y < 0)
def eqF (a b : Chg) : Bool := decide (a.fr = b.fr)
def eqV (a b : Chg) : Bool := decide (a.va = b.va)
/-- The counting changes that do not delete, ascending. -/
def inL (l : List Chg) (k : Int) : List Chg := ((comp eqF (dsc (known l k))).filter fun c => !c.de).reverse
def stepsL (l : List Chg) (k : Int) : List Chg := comp eqV (inL l k)

theorem dsc_pair (l : List Chg) : (dsc l).Pairwise fun a b => ¬ lt a b := by
  have := List.pairwise_mergeSort (le := fun x y => !decide (cmpC x y < 0)) (by
    intro a b c h1 h2
    simp only [Bool.not_eq_true', decide_eq_false_iff_not, cmpC_neg] at *
    intro h
    rcases lt_tri b c with h3 | h3 | h3
    · exact h2 h3
    · subst h3; exact h1 h
    · exact h1 (lt_trans h h3)) (by
    intro a b
    simp only [Bool.or_eq_true, Bool.not_eq_true', decide_eq_false_iff_not, cmpC_neg]
    rcases lt_tri a b with h | h | h
    · exact .inr (lt_asymm h)
    · subst h; exact .inl (lt_irrefl _)
    · exact .inl (lt_asymm h)) l
  unfold dsc
  exact this.imp fun h => by simpa [cmpC_neg] using h
theorem mem_dsc (l : List Chg) (x : Chg) : x ∈ dsc l ↔ x ∈ l := (List.mergeSort_perm l _).mem_iff
theorem mem_known (l : List Chg) (k : Int) (x : Chg) : x ∈ known l k ↔ x ∈ l ∧ x.kn ≤ k := by
  unfold known; simp [List.mem_filter]

/-- Of a descending list: compact by From keeps of each From the greatest. -/
theorem go_from : ∀ (p : Chg) (l : List Chg), (p :: l).Pairwise (fun a b => ¬ lt a b) → ∀ x, x ∈ comp.go eqF p l ↔ (x ∈ l ∧ x.fr ≠ p.fr ∧ ∀ y ∈ l, y.fr = x.fr → ¬ lt x y)
  | p, [], _, x => by simp [comp.go]
  | p, b :: r, h, x => by
    rw [List.pairwise_cons] at h
    have hb := h.2
    rw [List.pairwise_cons] at hb
    have hpb := h.1 b (List.mem_cons_self ..)
    have ih := go_from b r h.2 x
    have fle : ∀ y ∈ r, y.fr ≤ b.fr := fun y hy => by
      have := hb.1 y hy
      unfold lt at this
      omega
    have bfle : b.fr ≤ p.fr := by unfold lt at hpb; omega
    rw [comp.go]
    by_cases e : b.fr = p.fr
    · rw [if_pos (by simp [eqF, e]), ih]
      constructor
      · rintro ⟨h1, h2, h3⟩
        refine ⟨List.mem_cons_of_mem _ h1, e ▸ h2, fun y hy hy2 => ?_⟩
        rcases List.mem_cons.1 hy with rfl | hy
        · exact absurd hy2.symm h2
        · exact h3 y hy hy2
      · rintro ⟨h1, h2, h3⟩
        rcases List.mem_cons.1 h1 with rfl | h1
        · exact absurd e h2
        · exact ⟨h1, by rw [e]; exact h2, fun y hy => h3 y (List.mem_cons_of_mem _ hy)⟩
    · rw [if_neg (by simp [eqF, e]), List.mem_cons, ih]
      constructor
      · rintro (rfl | ⟨h1, h2, h3⟩)
        · refine ⟨List.mem_cons_self .., e, fun y hy hy2 => ?_⟩
          rcases List.mem_cons.1 hy with rfl | hy
          · exact lt_irrefl _
          · exact hb.1 y hy
        · have := fle x h1
          refine ⟨List.mem_cons_of_mem _ h1, by omega, fun y hy hy2 => ?_⟩
          rcases List.mem_cons.1 hy with rfl | hy
          · exact absurd hy2.symm h2
          · exact h3 y hy hy2
      · rintro ⟨h1, h2, h3⟩
        rcases List.mem_cons.1 h1 with rfl | h1
        · exact .inl rfl
        · by_cases e2 : x.fr = b.fr
          · left
            have h4 := h3 b (List.mem_cons_self ..) e2.symm
            have h5 := hb.1 x h1
            rcases lt_tri x b with h6 | h6 | h6
            · exact absurd h6 h4
            · exact h6
            · exact absurd h6 h5
          · exact .inr ⟨h1, e2, fun y hy => h3 y (List.mem_cons_of_mem _ hy)⟩
theorem mem_comp_from (l : List Chg) (h : l.Pairwise fun a b => ¬ lt a b) (x : Chg) : x ∈ comp eqF l ↔ (x ∈ l ∧ ∀ y ∈ l, y.fr = x.fr → ¬ lt x y) := by
  cases l with
  | nil => simp [comp]
  | cons a r =>
    have h' := List.pairwise_cons.1 h
    rw [comp, List.mem_cons, go_from a r h x]
    constructor
    · rintro (rfl | ⟨h1, h2, h3⟩)
      · refine ⟨List.mem_cons_self .., fun y hy _ => ?_⟩
        rcases List.mem_cons.1 hy with rfl | hy
        · exact lt_irrefl _
        · exact h'.1 y hy
      · refine ⟨List.mem_cons_of_mem _ h1, fun y hy hy2 => ?_⟩
        rcases List.mem_cons.1 hy with rfl | hy
        · exact absurd hy2.symm h2
        · exact h3 y hy hy2
    · rintro ⟨h1, h2⟩
      rcases List.mem_cons.1 h1 with rfl | h1
      · exact .inl rfl
      · by_cases e : x.fr = a.fr
        · left
          rcases lt_tri x a with h6 | h6 | h6
          · exact absurd h6 (h2 a (List.mem_cons_self ..) e.symm)
          · exact h6
          · exact absurd h6 (h'.1 x h1)
        · exact .inr ⟨h1, e, fun y hy => h2 y (List.mem_cons_of_mem _ hy)⟩
theorem go_from_desc : ∀ (p : Chg) (l : List Chg), (p :: l).Pairwise (fun a b => ¬ lt a b) → (comp.go eqF p l).Pairwise (fun a b => b.fr < a.fr) ∧ ∀ x ∈ comp.go eqF p l, x.fr < p.fr
  | p, [], _ => by simp [comp.go]
  | p, b :: r, h => by
    rw [List.pairwise_cons] at h
    have hpb := h.1 b (List.mem_cons_self ..)
    have ih := go_from_desc b r h.2
    have bfle : b.fr ≤ p.fr := by unfold lt at hpb; omega
    rw [comp.go]
    by_cases e : b.fr = p.fr
    · rw [if_pos (by simp [eqF, e])]
      exact ⟨ih.1, fun x hx => by have := ih.2 x hx; omega⟩
    · rw [if_neg (by simp [eqF, e])]
      refine ⟨List.pairwise_cons.2 ⟨ih.2, ih.1⟩, fun x hx => ?_⟩
      rcases List.mem_cons.1 hx with rfl | hx
      · omega
      · have := ih.2 x hx; omega
theorem comp_from_desc (l : List Chg) (h : l.Pairwise fun a b => ¬ lt a b) : (comp eqF l).Pairwise (fun a b => b.fr < a.fr) := by
  cases l with
  | nil => simp [comp]
  | cons a r => have := go_from_desc a r h; exact List.pairwise_cons.2 ⟨this.2, this.1⟩

/-- x counts for its From, and doesn't delete. -/
def counts (l : List Chg) (k : Int) (x : Chg) : Prop := x.kn ≤ k ∧ ∀ y ∈ l, y.fr = x.fr → y.kn ≤ k → ¬ lt x y
theorem mem_inL (l : List Chg) (k : Int) (x : Chg) : x ∈ inL l k ↔ x ∈ l ∧ x.de = false ∧ counts l k x := by
  unfold inL counts
  rw [List.mem_reverse, List.mem_filter, mem_comp_from _ (dsc_pair _), mem_dsc, mem_known]
  simp only [mem_dsc, mem_known]
  constructor
  · rintro ⟨⟨⟨h1, h2⟩, h3⟩, h4⟩
    exact ⟨h1, by simpa using h4, h2, fun y hy e hk => h3 y ⟨hy, hk⟩ e⟩
  · rintro ⟨h1, h4, h2, h3⟩
    exact ⟨⟨⟨h1, h2⟩, fun y hy e => h3 y hy.1 e hy.2⟩, by simp [h4]⟩
theorem inL_asc (l : List Chg) (k : Int) : (inL l k).Pairwise fun a b => a.fr < b.fr := by
  unfold inL
  rw [List.pairwise_reverse]
  exact (comp_from_desc _ (dsc_pair _)).filter _
theorem inL_unique (l : List Chg) (k : Int) (m : List Chg) (ha : m.Pairwise fun a b => a.fr < b.fr) (hm : ∀ x, x ∈ m ↔ x ∈ l ∧ x.de = false ∧ counts l k x) : m = inL l k :=
  asc_unique (r := fun a b : Chg => a.fr < b.fr) (fun a => by omega) (fun h h' => by omega) _ _ ha (inL_asc l k) fun x => by rw [hm, mem_inL]
theorem stepsL_asc (l : List Chg) (k : Int) : (stepsL l k).Pairwise fun a b => a.fr < b.fr := (inL_asc l k).sublist (comp_sub _ _)
theorem inL_length (l : List Chg) (k : Int) : (inL l k).length ≤ l.length := by
  unfold inL
  rw [List.length_reverse]
  refine Nat.le_trans (List.length_filter_le _ _) (Nat.le_trans (comp_length _ _) ?_)
  rw [show (dsc (known l k)).length = (known l k).length from (List.mergeSort_perm _ _).length_eq]
  exact List.length_filter_le _ _
theorem stepsL_length (l : List Chg) (k : Int) : (stepsL l k).length ≤ l.length := Nat.le_trans (comp_length _ _) (inL_length l k)
theorem mem_stepsL (l : List Chg) (k : Int) (x : Chg) (h : x ∈ stepsL l k) : x ∈ l := ((mem_inL l k x).1 (mem_comp _ _ _ h)).1
/-- What counts hangs on the set of changes alone. -/
theorem inL_congr {l m : List Chg} (h : ∀ x, x ∈ l ↔ x ∈ m) (k : Int) : inL l k = inL m k := by
  refine inL_unique m k _ (inL_asc l k) fun x => ?_
  rw [mem_inL]; unfold counts; simp only [h]

/-! ## The value of a day -/
def valF (d : Int) : Option Int → List Chg → Option Int
  | a, [] => a
  | a, c :: r => if c.fr ≤ d then valF d (some c.va) r else a
def valL (l : List Chg) (k d : Int) : Option Int := valF d none (inL l k)
theorem valF_stop (d : Int) (a : Option Int) : ∀ l : List Chg, (∀ c ∈ l, d < c.fr) → valF d a l = a
  | [], _ => rfl
  | c :: r, h => by have := h c (List.mem_cons_self ..); rw [valF, if_neg (by omega)]
theorem valF_go (d : Int) : ∀ (p : Chg) (l : List Chg), (p :: l).Pairwise (fun a b => a.fr < b.fr) → valF d (some p.va) (comp.go eqV p l) = valF d (some p.va) l
  | p, [], _ => by simp [comp.go]
  | p, b :: r, h => by
    have h' := List.pairwise_cons.1 h
    have h2 := List.pairwise_cons.1 h'.2
    rw [comp.go]
    by_cases e : b.va = p.va
    · rw [if_pos (by simp [eqV, e]), ← e, valF_go d b r h'.2, valF]
      by_cases hb : b.fr ≤ d
      · rw [if_pos hb]
      · rw [if_neg hb]
        exact valF_stop d _ r fun c hc => by have := h2.1 c hc; omega
    · rw [if_neg (by simp [eqV, e]), valF, valF]
      by_cases hb : b.fr ≤ d
      · rw [if_pos hb, if_pos hb, valF_go d b r h'.2]
      · rw [if_neg hb, if_neg hb]
theorem valF_comp (d : Int) (l : List Chg) (h : l.Pairwise (fun a b => a.fr < b.fr)) : valF d none (comp eqV l) = valF d none l := by
  cases l with
  | nil => rfl
  | cons a r => rw [comp, valF, valF, valF_go d a r h]
theorem valF_steps (l : List Chg) (k d : Int) : valF d none (stepsL l k) = valL l k d := valF_comp d _ (inL_asc l k)
/-- The value by the place of the first later change. -/
theorem valF_at (d : Int) : ∀ (l : List Chg) (a : Option Int) (i : Nat), i ≤ l.length → (∀ t, t < i → l[t]!.fr ≤ d) → (i < l.length → d < l[i]!.fr) → valF d a l = if i = 0 then a else some l[i - 1]!.va
  | [], a, i, h, _, _ => by simp at h; subst h; rfl
  | c :: r, a, 0, _, _, h => by
    have := h (by simp)
    rw [valF, if_neg (by simpa using this)]; rfl
  | c :: r, a, i + 1, h0, h1, h2 => by
    have e := h1 0 (by omega)
    rw [valF, if_pos (by simpa using e), valF_at d r (some c.va) i (by simpa using h0) (fun t ht => by simpa using h1 (t + 1) (by omega)) (fun hi => by simpa using h2 (by simpa using hi))]
    cases i with
    | zero => rfl
    | succ i => simp
/-- Between two days with no change between them the value is the same. -/
theorem valF_same {d d' : Int} (hd : d ≤ d') : ∀ (l : List Chg) (a : Option Int), (∀ c ∈ l, ¬ (d < c.fr ∧ c.fr ≤ d')) → valF d' a l = valF d a l
  | [], a, _ => rfl
  | c :: r, a, h => by
    have hc := h c (List.mem_cons_self ..)
    rw [valF, valF, valF_same hd r _ fun x hx => h x (List.mem_cons_of_mem _ hx)]
    by_cases e : c.fr ≤ d
    · rw [if_pos e, if_pos (by omega)]
    · rw [if_neg e, if_neg (by omega)]

/-- A range of days with a value. -/
structure Slc where
  fr : Int
  to : Int
  va : Int
instance : Inhabited Slc := ⟨⟨0, 0, 0⟩⟩

/-- A block of days a to b with the value v, behind what has been found. -/
def blk (out : List Slc) (a b v : Int) : List Slc :=
  match out.getLast? with
  | some s => if s.va = v ∧ s.to = a - 1 then out.dropLast ++ [⟨s.fr, b, v⟩] else out ++ [⟨a, b, v⟩]
  | none => out ++ [⟨a, b, v⟩]
def step (f : Int → Option Int) (out : List Slc) (d : Int) : List Slc := match f d with | none => out | some v => blk out d d v
/-- The n days from a on, one by one. -/
def days (f : Int → Option Int) : List Slc → Int → Nat → List Slc
  | out, _, 0 => out
  | out, a, n + 1 => days f (step f out a) (a + 1) n
theorem days_add (f : Int → Option Int) : ∀ (m n : Nat) (out : List Slc) (a : Int), days f out a (m + n) = days f (days f out a m) (a + m) n
  | 0, n, out, a => by simp [days]
  | m + 1, n, out, a => by
    rw [show m + 1 + n = (m + n) + 1 by omega, days, days, days_add f m n, show a + 1 + (m : Int) = a + ((m + 1 : Nat) : Int) by omega]
theorem days_none (f : Int → Option Int) : ∀ (n : Nat) (out : List Slc) (a : Int), (∀ d, a ≤ d → d < a + n → f d = none) → days f out a n = out
  | 0, _, _, _ => rfl
  | n + 1, out, a, h => by
    rw [days, step, h a (by omega) (by omega)]
    exact days_none f n out (a + 1) fun d h1 h2 => h d (by omega) (by omega)
theorem blk_blk (out : List Slc) (a b c v : Int) (hb : b = c - 1) : blk (blk out a b v) c c v = blk out a c v := by
  subst hb
  have e : ∃ pre s0, blk out a (c - 1) v = pre ++ [⟨s0, c - 1, v⟩] ∧ blk out a c v = pre ++ [⟨s0, c, v⟩] := by
    unfold blk
    cases out.getLast? with
    | none => exact ⟨out, a, rfl, rfl⟩
    | some s =>
      by_cases h : s.va = v ∧ s.to = a - 1
      · exact ⟨out.dropLast, s.fr, by simp [h], by simp [h]⟩
      · exact ⟨out, a, by simp [h], by simp [h]⟩
  obtain ⟨pre, s0, e1, e2⟩ := e
  rw [e1, e2]
  unfold blk
  simp
theorem days_blk (f : Int → Option Int) (v : Int) : ∀ (n : Nat) (out : List Slc) (a b : Int), (∀ d, b < d → d ≤ b + n → f d = some v) → days f (blk out a b v) (b + 1) n = blk out a (b + n) v
  | 0, _, _, b, _ => by simp [days]
  | n + 1, out, a, b, h => by
    rw [days, step, h (b + 1) (by omega) (by omega)]
    show days f (blk (blk out a b v) (b + 1) (b + 1) v) (b + 1 + 1) n = _
    rw [blk_blk out a b (b + 1) v (by omega), days_blk f v n out a (b + 1) fun d h1 h2 => h d (by omega) (by omega), show b + 1 + (n : Int) = b + ((n + 1 : Nat) : Int) by omega]
/-- A block of days with one value, at once. -/
theorem days_some (f : Int → Option Int) (v : Int) (n : Nat) (out : List Slc) (a : Int) (hn : 0 < n) (h : ∀ d, a ≤ d → d < a + n → f d = some v) : days f out a n = blk out a (a + n - 1) v := by
  obtain ⟨m, rfl⟩ : ∃ m, n = m + 1 := ⟨n - 1, by omega⟩
  rw [days, step, h a (by omega) (by omega)]
  show days f (blk out a a v) (a + 1) m = _
  rw [days_blk f v m out a a fun d h1 h2 => h d (by omega) (by omega), show a + ((m + 1 : Nat) : Int) - 1 = a + (m : Int) by omega]
theorem days_const (f : Int → Option Int) (n : Nat) (out : List Slc) (a : Int) (hn : 0 < n) (h : ∀ d, a ≤ d → d < a + n → f d = f a) :
    days f out a n = match f a with | none => out | some v => blk out a (a + n - 1) v := by
  cases e : f a with
  | none => exact days_none f n out a fun d h1 h2 => (h d h1 h2).trans e
  | some v => exact days_some f v n out a hn fun d h1 h2 => (h d h1 h2).trans e
/-- The longest ranges of days within a to b with one value. -/
def ranges (f : Int → Option Int) (a b : Int) : List Slc := days f [] a (b + 1 - a).toNat
theorem days_congr {f g : Int → Option Int} (h : ∀ d, f d = g d) : ∀ (n : Nat) (out : List Slc) (a : Int), days f out a n = days g out a n
  | 0, _, _ => rfl
  | n + 1, out, a => by rw [days, days, step, step, h a, days_congr h n]
theorem ranges_congr {f g : Int → Option Int} (h : ∀ d, f d = g d) (a b : Int) : ranges f a b = ranges g a b := days_congr h _ _ _

/-! ## The program's Slices: from the last step to the first one -/
def lastOf (to : Int) : List Chg → Int
  | [] => to
  | c :: _ => min to (c.fr - 1)
def part (a b v : Int) : List Slc := if a ≤ b then [⟨a, b, v⟩] else []
def sl (fr to : Int) : List Chg → List Slc
  | [] => []
  | c :: r => part (max fr c.fr) (lastOf to r) c.va ++ sl fr to r
theorem sl_late (fr to : Int) : ∀ l : List Chg, (∀ c ∈ l, to < c.fr) → sl fr to l = []
  | [], _ => rfl
  | c :: r, h => by
    have := h c (List.mem_cons_self ..)
    have l1 : lastOf to r ≤ to := by cases r <;> simp [lastOf] <;> omega
    rw [sl, sl_late fr to r fun x hx => h x (List.mem_cons_of_mem _ hx), part, if_neg (by omega)]; rfl
/-- Neighbours differ. -/
def diffs : List Chg → Prop
  | [] => True
  | [_] => True
  | a :: b :: r => a.va ≠ b.va ∧ diffs (b :: r)
theorem days_zero (f : Int → Option Int) (out : List Slc) (a : Int) (n : Nat) (h : n = 0) : days f out a n = out := by subst h; rfl
theorem sl_days (fr to : Int) : ∀ (p : Chg) (r : List Chg) (f : Int → Option Int) (out : List Slc), (p :: r).Pairwise (fun a b => a.fr < b.fr) → diffs (p :: r) →
    (∀ d, p.fr ≤ d → f d = valF d (some p.va) r) → (out = [] ∨ (fr < p.fr ∧ ∃ s, out.getLast? = some s ∧ s.va ≠ p.va)) →
    days f out (max fr p.fr) (to + 1 - max fr p.fr).toNat = out ++ sl fr to (p :: r)
  | p, [], f, out, _, _, hf, hout => by
    rw [sl, sl, lastOf, part]
    by_cases h : max fr p.fr ≤ to
    · rw [if_pos h, days_some f p.va _ out _ (by omega) (fun d h1 h2 => by rw [hf d (by omega)]; rfl), show max fr p.fr + ((to + 1 - max fr p.fr).toNat : Int) - 1 = to by omega]
      unfold blk
      rcases hout with rfl | ⟨_, s, hs, hv⟩
      · simp
      · rw [hs]; simp [hv]
    · rw [if_neg h, days_zero _ _ _ _ (by omega)]; simp
  | p, c :: r, f, out, ha, hd, hf, hout => by
    have ha' := List.pairwise_cons.1 ha
    have hpc := ha'.1 c (List.mem_cons_self ..)
    have hcr := (List.pairwise_cons.1 ha'.2).1
    have hf' : ∀ d, c.fr ≤ d → f d = valF d (some c.va) r := fun d h => by rw [hf d (by omega), valF, if_pos h]
    have hfl : ∀ d, p.fr ≤ d → d < c.fr → f d = some p.va := fun d h1 h2 => by rw [hf d h1, valF, if_neg (by omega)]
    rw [sl, part, lastOf]
    by_cases hto : to < max fr p.fr
    · rw [if_neg (by omega), days_zero _ _ _ _ (by omega), sl]
      have : part (max fr c.fr) (lastOf to r) c.va = [] := by
        have l1 : lastOf to r ≤ to := by cases r <;> simp [lastOf] <;> omega
        rw [part, if_neg (by omega)]
      rw [this]
      by_cases h2 : fr < p.fr
      · rw [sl_late fr to r fun x hx => by have := hcr x hx; omega]; simp
      · have key := sl_days fr to c r f [] ha'.2 hd.2 hf' (.inl rfl)
        rw [days_zero _ _ _ _ (by omega), sl, this] at key
        simp at key
        rw [key]; simp
    by_cases h : max fr p.fr ≤ min to (c.fr - 1)
    · rw [if_pos h]
      have e1 : (to + 1 - max fr p.fr).toNat = (min to (c.fr - 1) + 1 - max fr p.fr).toNat + (to - min to (c.fr - 1)).toNat := by omega
      rw [e1, days_add, days_some f p.va _ out _ (by omega) (fun d h1 h2 => hfl d (by omega) (by omega)), show max fr p.fr + ((min to (c.fr - 1) + 1 - max fr p.fr).toNat : Int) - 1 = min to (c.fr - 1) by omega]
      have e2 : blk out (max fr p.fr) (min to (c.fr - 1)) p.va = out ++ [⟨max fr p.fr, min to (c.fr - 1), p.va⟩] := by
        unfold blk
        rcases hout with rfl | ⟨_, s, hs, hv⟩
        · simp
        · rw [hs]; simp [hv]
      rw [e2]
      by_cases h3 : c.fr ≤ to
      · have key := sl_days fr to c r f (out ++ [⟨max fr p.fr, min to (c.fr - 1), p.va⟩]) ha'.2 hd.2 hf' (.inr ⟨by omega, _, by simp; rfl, by simpa using hd.1⟩)
        rw [show max fr p.fr + ((min to (c.fr - 1) + 1 - max fr p.fr).toNat : Int) = max fr c.fr by omega, show (to - min to (c.fr - 1)).toNat = (to + 1 - max fr c.fr).toNat by omega, key]
        simp
      · rw [days_zero _ _ _ _ (by omega), sl_late fr to (c :: r) fun x hx => by
          rcases List.mem_cons.1 hx with rfl | hx
          · omega
          · have := hcr x hx; omega]
        simp
    · rw [if_neg h]
      have e1 : max fr p.fr = fr := by omega
      have e2 : max fr c.fr = fr := by omega
      have ho : out = [] := by
        rcases hout with h | h
        · exact h
        · omega
      have key := sl_days fr to c r f out ha'.2 hd.2 hf' (.inl ho)
      rw [e2] at key
      rw [e1, key]; simp
theorem sl_ranges (fr to : Int) (l : List Chg) (ha : l.Pairwise fun a b => a.fr < b.fr) (hd : diffs l) : sl fr to l = ranges (fun d => valF d none l) fr to := by
  unfold ranges
  cases l with
  | nil => exact (days_none (fun d => valF d none []) _ _ _ fun d _ _ => rfl).symm
  | cons p r =>
    have hpr := (List.pairwise_cons.1 ha).1
    have hf : ∀ d, p.fr ≤ d → (fun d => valF d none (p :: r)) d = valF d (some p.va) r := fun d h => by show valF d none (p :: r) = _; rw [valF, if_pos h]
    have hn : ∀ d, d < p.fr → (fun d => valF d none (p :: r)) d = none := fun d h => by show valF d none (p :: r) = _; rw [valF, if_neg (by omega)]
    by_cases h : fr ≤ to
    · by_cases h1 : p.fr ≤ to
      · rw [show (to + 1 - fr).toNat = (max fr p.fr - fr).toNat + (to + 1 - max fr p.fr).toNat by omega, days_add, days_none _ (max fr p.fr - fr).toNat _ _ (fun d h1 h2 => hn d (by omega)), show fr + ((max fr p.fr - fr).toNat : Int) = max fr p.fr by omega, sl_days fr to p r _ [] ha hd hf (.inl rfl)]
        rfl
      · rw [days_none _ _ _ _ (fun d h1 h2 => hn d (by omega)), sl_late fr to _ fun x hx => ?_]
        rcases List.mem_cons.1 hx with rfl | hx
        · omega
        · have := hpr x hx; omega
    · rw [show (to + 1 - fr).toNat = 0 by omega]
      have key := sl_days fr to p r _ [] ha hd hf (.inl rfl)
      rw [show (to + 1 - max fr p.fr).toNat = 0 by omega] at key
      simpa [days] using key.symm
theorem go_diffs : ∀ (p : Chg) (l : List Chg), diffs (p :: comp.go eqV p l)
  | p, [] => by simp [comp.go, diffs]
  | p, b :: r => by
    rw [comp.go]
    by_cases e : b.va = p.va
    · rw [if_pos (by simp [eqV, e])]
      have := go_diffs b r
      cases hg : comp.go eqV b r with
      | nil => simp [diffs]
      | cons x y => rw [hg] at this; exact ⟨by rw [← e]; exact this.1, this.2⟩
    · rw [if_neg (by simp [eqV, e])]
      exact ⟨fun h => e h.symm, go_diffs b r⟩
theorem comp_diffs (l : List Chg) : diffs (comp eqV l) := by
  cases l with
  | nil => simp [comp, diffs]
  | cons a r => exact go_diffs a r
/-- Slices, as the chapter says it. -/
def slcL (l : List Chg) (k fr to : Int) : List Slc := ranges (valL l k) fr to
theorem sl_steps (l : List Chg) (k fr to : Int) : sl fr to (stepsL l k) = slcL l k fr to := by
  rw [sl_ranges fr to _ (stepsL_asc l k) (comp_diffs _)]
  exact ranges_congr (fun d => valF_steps l k d) _ _
/-- .. and Diff. -/
def difF (x y : Option Int) : Option Int := if x = y then none else some 0
def difL (l : List Chg) (a b fr to : Int) : List Slc := ranges (fun d => difF (valL l a d) (valL l b d)) fr to

/-! ## The least From behind a day -/
def nextF (d : Int) : Int → List Chg → Int
  | n, [] => n
  | n, c :: r => nextF d (if d < c.fr ∧ c.fr < n then c.fr else n) r
theorem nextF_le (d : Int) : ∀ (l : List Chg) (n : Int), nextF d n l ≤ n
  | [], n => by simp [nextF]
  | c :: r, n => by
    rw [nextF]
    split
    · have := nextF_le d r c.fr; omega
    · exact nextF_le d r n
theorem nextF_gt (d : Int) : ∀ (l : List Chg) (n : Int), d < n → d < nextF d n l
  | [], n, h => by simpa [nextF] using h
  | c :: r, n, h => by
    rw [nextF]
    split
    · exact nextF_gt d r _ (by omega)
    · exact nextF_gt d r n h
theorem nextF_none (d : Int) : ∀ (l : List Chg) (n : Int), ∀ c ∈ l, ¬ (d < c.fr ∧ c.fr < nextF d n l)
  | [], n, c, h => by simp at h
  | x :: r, n, c, h => by
    rw [nextF]
    rcases List.mem_cons.1 h with rfl | h
    · split
      · have := nextF_le d r c.fr; omega
      · have := nextF_le d r n; omega
    · exact nextF_none d r _ c h

/-! ## Insertion into an ascending list -/
def ins {α : Type} (out : List α) (p : Nat) (c : α) : List α := out.take p ++ c :: out.drop p
theorem mem_ins {α : Type} (out : List α) (p : Nat) (c x : α) : x ∈ ins out p c ↔ x = c ∨ x ∈ out := by
  unfold ins
  rw [List.mem_append, List.mem_cons]
  constructor
  · rintro (h | h | h)
    · exact .inr (List.mem_of_mem_take h)
    · exact .inl h
    · exact .inr (List.mem_of_mem_drop h)
  · rintro (h | h)
    · exact .inr (.inl h)
    · rw [← List.take_append_drop p out, List.mem_append] at h
      rcases h with h | h
      · exact .inl h
      · exact .inr (.inr h)
theorem length_ins {α : Type} (out : List α) (p : Nat) (c : α) (h : p ≤ out.length) : (ins out p c).length = out.length + 1 := by
  unfold ins; simp; omega
theorem ins_asc {α : Type} [Inhabited α] {r : α → α → Prop} (tr : ∀ {a b c}, r a b → r b c → r a c) (out : List α) (p : Nat) (c : α) (hp : p ≤ out.length) (ha : out.Pairwise r)
    (h1 : ∀ t, t < p → r out[t]! c) (h2 : p < out.length → r c out[p]!) : (ins out p c).Pairwise r := by
  unfold ins
  rw [List.pairwise_append, List.pairwise_cons]
  have hd : ∀ x ∈ out.drop p, r c x := fun x hx => by
    have hl : p < out.length := by
      rcases Nat.lt_or_ge p out.length with h | h
      · exact h
      · rw [List.drop_eq_nil_of_le h] at hx; simp at hx
    rw [List.drop_eq_getElem_cons hl] at hx
    have h0 : r c out[p] := by have := h2 hl; rwa [getElem!_pos out p hl] at this
    have ha2 := ha.sublist (List.drop_sublist p out)
    rw [List.drop_eq_getElem_cons hl, List.pairwise_cons] at ha2
    rcases List.mem_cons.1 hx with rfl | hx
    · exact h0
    · exact tr h0 (ha2.1 x hx)
  have ht : ∀ x ∈ out.take p, r x c := fun x hx => by
    obtain ⟨i, hi, rfl⟩ := List.mem_iff_getElem.1 hx
    have hi' : i < p := by simp at hi; omega
    have := h1 i hi'
    rw [getElem!_pos out i (by omega)] at this
    simpa using this
  refine ⟨ha.sublist (List.take_sublist p out), ⟨hd, ha.sublist (List.drop_sublist p out)⟩, fun x hx y hy => ?_⟩
  rcases List.mem_cons.1 hy with rfl | hy
  · exact ht x hx
  · exact tr (ht x hx) (hd y hy)

/-- What the reference's 'in' holds behind i changes. -/
def InI (l : List Chg) (k : Int) (i : Nat) (out : List Chg) : Prop := out.length ≤ i ∧ out.Pairwise (fun a b => a.fr < b.fr) ∧ ∀ x, x ∈ out ↔ x ∈ l.take i ∧ x.de = false ∧ counts l k x
theorem InI.start (l : List Chg) (k : Int) : InI l k 0 [] := ⟨Nat.le_refl _, List.Pairwise.nil, fun x => by simp⟩
theorem mem_take_succ {α : Type} {l : List α} {i : Nat} (hi : i < l.length) (x : α) : x ∈ l.take (i + 1) ↔ x ∈ l.take i ∨ x = l[i] := by
  rw [List.take_succ_eq_append_getElem hi, List.mem_append, List.mem_singleton]
theorem InI.skip {l : List Chg} {k : Int} {i : Nat} {out : List Chg} (h : InI l k i out) (hi : i < l.length) (hc : ¬ (l[i].de = false ∧ counts l k l[i])) : InI l k (i + 1) out := by
  refine ⟨by have := h.1; omega, h.2.1, fun x => ?_⟩
  rw [h.2.2 x, mem_take_succ hi]
  constructor
  · rintro ⟨h1, h2⟩; exact ⟨.inl h1, h2⟩
  · rintro ⟨h1 | rfl, h2⟩
    · exact ⟨h1, h2⟩
    · exact absurd h2 hc
theorem counts_eq {l : List Chg} {k : Int} {x y : Chg} (hx : x ∈ l) (hy : y ∈ l) (cx : counts l k x) (cy : counts l k y) (e : x.fr = y.fr) : x = y := by
  rcases lt_tri x y with h | h | h
  · exact absurd h (cx.2 y hy e.symm cy.1)
  · exact h
  · exact absurd h (cy.2 x hx e cx.1)
theorem InI.same {l : List Chg} {k : Int} {i : Nat} {out : List Chg} (h : InI l k i out) (hi : i < l.length) (hc : l[i].de = false ∧ counts l k l[i]) (p : Nat) (hp : p < out.length) (he : out[p]!.fr = l[i].fr) : InI l k (i + 1) out := by
  have hm : out[p]! ∈ out := by rw [getElem!_pos out p hp]; exact List.getElem_mem hp
  have h3 := (h.2.2 _).1 hm
  have e : l[i] = out[p]! := counts_eq (List.getElem_mem hi) (List.mem_of_mem_take h3.1) hc.2 h3.2.2 he.symm
  refine ⟨by have := h.1; omega, h.2.1, fun x => ?_⟩
  rw [h.2.2 x, mem_take_succ hi]
  constructor
  · rintro ⟨h1, h2⟩; exact ⟨.inl h1, h2⟩
  · rintro ⟨h1 | rfl, h2⟩
    · exact ⟨h1, h2⟩
    · exact ⟨by rw [e]; exact h3.1, h2⟩
theorem InI.put {l : List Chg} {k : Int} {i : Nat} {out : List Chg} (h : InI l k i out) (hi : i < l.length) (hc : l[i].de = false ∧ counts l k l[i]) (p : Nat) (hp : p ≤ out.length) (h1 : ∀ t, t < p → out[t]!.fr < l[i].fr)
    (h2 : p < out.length → ¬ out[p]!.fr < l[i].fr) (he : p < out.length → out[p]!.fr ≠ l[i].fr) : InI l k (i + 1) (ins out p l[i]) := by
  refine ⟨by rw [length_ins _ _ _ hp]; have := h.1; omega, ins_asc (fun a b => by omega) out p l[i] hp h.2.1 h1 (fun hl => by have := h2 hl; have := he hl; omega), fun x => ?_⟩
  rw [mem_ins, h.2.2 x, mem_take_succ hi]
  constructor
  · rintro (rfl | ⟨h3, h4⟩)
    · exact ⟨.inr rfl, hc⟩
    · exact ⟨.inl h3, h4⟩
  · rintro ⟨h3 | rfl, h4⟩
    · exact .inr ⟨h3, h4⟩
    · exact .inl rfl
theorem InI.done {l : List Chg} {k : Int} {out : List Chg} (h : InI l k l.length out) : out = inL l k :=
  inL_unique l k out h.2.1 fun x => by rw [h.2.2 x, List.take_length]

/-! ## The union of two sets -/
def asc (l : List Chg) : List Chg := l.mergeSort fun x y => !decide (cmpC y x < 0)
def eqC (a b : Chg) : Bool := decide (a = b)
def unionL (a b : List Chg) : List Chg := comp eqC (asc (a ++ b))
theorem asc_pair (l : List Chg) : (asc l).Pairwise fun a b => ¬ lt b a := by
  have := List.pairwise_mergeSort (le := fun x y => !decide (cmpC y x < 0)) (by
    intro a b c h1 h2
    simp only [Bool.not_eq_true', decide_eq_false_iff_not, cmpC_neg] at *
    intro h
    rcases lt_tri a b with h3 | h3 | h3
    · exact h2 (lt_trans h h3)
    · subst h3; exact h2 h
    · exact h1 h3) (by
    intro a b
    simp only [Bool.or_eq_true, Bool.not_eq_true', decide_eq_false_iff_not, cmpC_neg]
    rcases lt_tri a b with h | h | h
    · exact .inl (lt_asymm h)
    · subst h; exact .inl (lt_irrefl _)
    · exact .inr (lt_asymm h)) l
  unfold asc
  exact this.imp fun h => by simpa [cmpC_neg] using h
theorem mem_asc (l : List Chg) (x : Chg) : x ∈ asc l ↔ x ∈ l := (List.mergeSort_perm l _).mem_iff
theorem mem_unionL (a b : List Chg) (x : Chg) : x ∈ unionL a b ↔ x ∈ a ∨ x ∈ b := by
  unfold unionL eqC; rw [mem_comp_iff, mem_asc, List.mem_append]
theorem unionL_asc (a b : List Chg) : (unionL a b).Pairwise lt := comp_strict (r := lt) (fun h => lt_asymm h) lt_tri (fun h h' => lt_trans h h') _ (asc_pair _)
theorem unionL_unique (a b m : List Chg) (ha : m.Pairwise lt) (hm : ∀ x, x ∈ m ↔ x ∈ a ∨ x ∈ b) : m = unionL a b :=
  asc_unique (r := lt) lt_irrefl (fun h h' => lt_trans h h') _ _ ha (unionL_asc a b) fun x => by rw [hm, mem_unionL]
theorem unionL_congr {a b a' b' : List Chg} (h : ∀ x, (x ∈ a ∨ x ∈ b) ↔ (x ∈ a' ∨ x ∈ b')) : unionL a b = unionL a' b' :=
  unionL_unique a' b' _ (unionL_asc a b) fun x => by rw [mem_unionL, h]
theorem asc_length (l : List Chg) : (asc l).length = l.length := (List.mergeSort_perm _ _).length_eq
theorem unionL_length (a b : List Chg) : (unionL a b).length ≤ a.length + b.length := by
  unfold unionL
  refine Nat.le_trans (comp_length _ _) ?_
  rw [asc_length, List.length_append]; exact Nat.le_refl _
theorem inL_union (a b : List Chg) (k : Int) : inL (unionL a b) k = inL (a ++ b) k := inL_congr (fun x => by rw [mem_unionL, List.mem_append]) k
/-- What the reference's Merge holds behind i changes of both. -/
def UnI (l : List Chg) (i : Nat) (out : List Chg) : Prop := out.length ≤ i ∧ out.Pairwise lt ∧ ∀ x, x ∈ out ↔ x ∈ l.take i
theorem UnI.start (l : List Chg) : UnI l 0 [] := ⟨Nat.le_refl _, List.Pairwise.nil, fun x => by simp⟩
theorem UnI.same {l : List Chg} {i : Nat} {out : List Chg} (h : UnI l i out) (hi : i < l.length) (p : Nat) (hp : p < out.length) (he : out[p]! = l[i]) : UnI l (i + 1) out := by
  have hm : out[p]! ∈ out := by rw [getElem!_pos out p hp]; exact List.getElem_mem hp
  refine ⟨by have := h.1; omega, h.2.1, fun x => ?_⟩
  rw [h.2.2 x, mem_take_succ hi]
  constructor
  · exact .inl
  · rintro (h1 | rfl)
    · exact h1
    · rw [← he]; exact (h.2.2 _).1 hm
theorem UnI.put {l : List Chg} {i : Nat} {out : List Chg} (h : UnI l i out) (hi : i < l.length) (p : Nat) (hp : p ≤ out.length) (h1 : ∀ t, t < p → lt out[t]! l[i])
    (h2 : p < out.length → ¬ lt out[p]! l[i]) (he : p < out.length → out[p]! ≠ l[i]) : UnI l (i + 1) (ins out p l[i]) := by
  refine ⟨by rw [length_ins _ _ _ hp]; have := h.1; omega, ins_asc (r := lt) (fun a b => lt_trans a b) out p l[i] hp h.2.1 h1 (fun hl => ?_), fun x => ?_⟩
  · rcases lt_tri l[i] out[p]! with h3 | h3 | h3
    · exact h3
    · exact absurd h3.symm (he hl)
    · exact absurd h3 (h2 hl)
  · rw [mem_ins, h.2.2 x, mem_take_succ hi]
    constructor
    · rintro (h3 | h3)
      · exact .inr h3
      · exact .inl h3
    · rintro (h3 | h3)
      · exact .inr h3
      · exact .inl h3
theorem UnI.done {a b out : List Chg} (h : UnI (a ++ b) (a.length + b.length) out) : out = unionL a b :=
  unionL_unique a b out h.2.1 fun x => by rw [h.2.2 x, ← List.length_append, List.take_length, List.mem_append]

/-! ## The errors of a list, and of a range -/
def okC (c : Chg) : Prop := 0 ≤ c.fr ∧ c.fr ≤ 84005 ∧ 0 ≤ c.kn ∧ c.kn ≤ 2147483647 ∧ -1000000000000 ≤ c.va ∧ c.va ≤ 1000000000000
instance (c : Chg) : Decidable (okC c) := by unfold okC; exact inferInstance
def errC (c : Chg) : Int := if okC c then (if c.de = true ∧ c.va ≠ 0 then 1 else 0) else 2
def errL : List Chg → Int
  | [] => 0
  | c :: r => if errC c = 0 then errL r else errC c
def valE (l : List Chg) : Int := if 1024 < l.length then 3 else errL l
theorem errL_take (l : List Chg) (i : Nat) (h : errL (l.take i) = 0) (hi : i < l.length) : errL (l.take (i + 1)) = errC l[i] := by
  induction l generalizing i with
  | nil => simp at hi
  | cons c r ih =>
    cases i with
    | zero => simp [errL]; intro h; exact h.symm
    | succ i =>
      rw [List.take_succ_cons, errL] at h
      split at h
      · rw [List.take_succ_cons, errL, if_pos ‹_›, ih i h (by simpa using hi)]; rfl
      · exact absurd h ‹_›
theorem errL_stop (l : List Chg) (i : Nat) (h : errL (l.take i) = 0) (hi : i < l.length) (hc : errC l[i] ≠ 0) : errL l = errC l[i] := by
  induction l generalizing i with
  | nil => simp at hi
  | cons c r ih =>
    cases i with
    | zero => simp only [List.getElem_cons_zero] at *; rw [errL, if_neg hc]
    | succ i =>
      rw [List.take_succ_cons, errL] at h
      split at h
      · rw [errL, if_pos ‹_›]; simpa using ih i h (by simpa using hi) (by simpa using hc)
      · exact absurd h ‹_›
theorem errL_zero : ∀ (l : List Chg), errL l = 0 ↔ ∀ c ∈ l, errC c = 0
  | [] => by simp [errL]
  | c :: r => by
    rw [errL]
    split
    · rw [errL_zero r]; simp [*]
    · simp [*]
theorem errC_ok {c : Chg} (h : errC c = 0) : okC c := by
  unfold errC at h
  split at h
  · assumption
  · simp at h
def chkE (l : List Chg) (fr to : Int) : Int :=
  if valE l ≠ 0 then valE l else if ¬ (0 ≤ fr ∧ fr ≤ 84005 ∧ 0 ≤ to ∧ to ≤ 84005) then 2 else if to < fr then 1 else 0
theorem valE_ok {l : List Chg} (h : valE l = 0) : l.length ≤ 1024 ∧ ∀ c ∈ l, okC c := by
  unfold valE at h
  split at h
  · simp at h
  · exact ⟨by omega, fun c hc => errC_ok ((errL_zero l).1 h c hc)⟩
end Go.Proofs.Ytdpgmjmmnjbbiaa.Tl
