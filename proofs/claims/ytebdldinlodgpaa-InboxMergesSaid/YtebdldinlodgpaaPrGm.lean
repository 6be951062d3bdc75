/-
  Mathematics of ordered lists without repetitions: compact, insertion, unions, lexicographic order. No condition.
-/
import Derived.Lib.SlKept
import Derived.Shelf.SlSortCmp.InsertionK
namespace Go.Proofs.Ytebdldinlodgpaa.Gm
open Go Go.RowKit Go.Lib Go.Sort Go.Shelf Go.Proofs
set_option linter.unusedVariables false

/-! ## Strictly ascending lists -/
theorem asc_unique {α : Type} {r : α → α → Prop} (irr : ∀ a, ¬ r a a) (tr : ∀ {a b c}, r a b → r b c → r a c) : ∀ (l m : List α), l.Pairwise r → m.Pairwise r → (∀ x, x ∈ l ↔ x ∈ m) → l = m
  | [], [], _, _, _ => rfl
  | [], b :: m, _, _, h => absurd ((h b).2 (List.mem_cons_self ..)) (by simp)
  | a :: l, [], _, _, h => absurd ((h a).1 (List.mem_cons_self ..)) (by simp)
  | a :: l, b :: m, hl, hm, h => by
    rw [List.pairwise_cons] at hl hm
    have e : a = b := by
      rcases List.mem_cons.1 ((h a).1 (List.mem_cons_self ..)) with e | e
      · exact e
      · rcases List.mem_cons.1 ((h b).2 (List.mem_cons_self ..)) with e' | e'
        · exact e'.symm
        · exact absurd (tr (hm.1 a e) (hl.1 b e')) (irr _)
    subst e
    congr 1
    refine asc_unique irr tr l m hl.2 hm.2 fun x => ⟨fun hx => ?_, fun hx => ?_⟩
    · rcases List.mem_cons.1 ((h x).1 (List.mem_cons_of_mem _ hx)) with e | e
      · subst e; exact absurd (hl.1 _ hx) (irr _)
      · exact e
    · rcases List.mem_cons.1 ((h x).2 (List.mem_cons_of_mem _ hx)) with e | e
      · subst e; exact absurd (hm.1 _ hx) (irr _)
      · exact e

/-! ## Compact: of a run of alike neighbours the first one -/
/-- slices.Compact, slices.CompactFunc: what is not alike the element before it. -/
def comp {α : Type} (eq : α → α → Bool) : List α → List α
  | [] => []
  | a :: r => a :: go eq a r
where go {α : Type} (eq : α → α → Bool) : α → List α → List α
  | _, [] => []
  | p, b :: r => if eq b p then go eq b r else b :: go eq b r
theorem mem_go {α : Type} (eq : α → α → Bool) : ∀ (p : α) (l : List α) (x : α), x ∈ comp.go eq p l → x ∈ l
  | _, [], _, h => by simp [comp.go] at h
  | p, b :: r, x, h => by
    rw [comp.go] at h
    split at h
    · exact List.mem_cons_of_mem _ (mem_go eq b r x h)
    · rcases List.mem_cons.1 h with rfl | h
      · exact List.mem_cons_self ..
      · exact List.mem_cons_of_mem _ (mem_go eq b r x h)
theorem mem_comp {α : Type} (eq : α → α → Bool) (l : List α) (x : α) (h : x ∈ comp eq l) : x ∈ l := by
  cases l with
  | nil => simp [comp] at h
  | cons a r =>
    rw [comp] at h
    rcases List.mem_cons.1 h with rfl | h
    · exact List.mem_cons_self ..
    · exact List.mem_cons_of_mem _ (mem_go eq a r x h)
theorem go_sub {α : Type} (eq : α → α → Bool) : ∀ (p : α) (l : List α), (comp.go eq p l).Sublist l
  | _, [] => by simp [comp.go]
  | p, b :: r => by
    rw [comp.go]
    split
    · exact (go_sub eq b r).cons _
    · exact (go_sub eq b r).cons_cons _
theorem comp_sub {α : Type} (eq : α → α → Bool) (l : List α) : (comp eq l).Sublist l := by
  cases l with
  | nil => simp [comp]
  | cons a r => exact (go_sub eq a r).cons_cons _
theorem comp_length {α : Type} (eq : α → α → Bool) (l : List α) : (comp eq l).length ≤ l.length := (comp_sub eq l).length_le
/-- Of an ordered list whose alike elements are one: compact keeps every element. -/
theorem mem_go_of {α : Type} [DecidableEq α] : ∀ (p : α) (l : List α) (x : α), x ∈ l → x ≠ p → (∀ y ∈ l, True) → x ∈ comp.go (fun a b => decide (a = b)) p l
  | _, [], _, h, _, _ => by simp at h
  | p, b :: r, x, h, hp, _ => by
    rw [comp.go]
    by_cases e : b = p
    · subst e
      rw [if_pos (by simp)]
      rcases List.mem_cons.1 h with rfl | h
      · exact absurd rfl hp
      · exact mem_go_of b r x h hp (fun _ _ => trivial)
    · rw [if_neg (by simpa using e)]
      by_cases e' : x = b
      · exact e' ▸ List.mem_cons_self ..
      · rcases List.mem_cons.1 h with rfl | h
        · exact absurd rfl e'
        · exact List.mem_cons_of_mem _ (mem_go_of b r x h e' (fun _ _ => trivial))
theorem mem_comp_iff {α : Type} [DecidableEq α] (l : List α) (x : α) : x ∈ comp (fun a b => decide (a = b)) l ↔ x ∈ l := by
  refine ⟨mem_comp _ l x, fun h => ?_⟩
  cases l with
  | nil => simp at h
  | cons a r =>
    rw [comp]
    by_cases e : x = a
    · exact e ▸ List.mem_cons_self ..
    · rcases List.mem_cons.1 h with rfl | h
      · exact absurd rfl e
      · exact List.mem_cons_of_mem _ (mem_go_of a r x h e (fun _ _ => trivial))
theorem go_strict {α : Type} [DecidableEq α] {r : α → α → Prop} (asy : ∀ {a b}, r a b → ¬ r b a) : ∀ (p : α) (l : List α), (p :: l).Pairwise (fun a b => ¬ r b a) → (∀ a b, r a b ∨ a = b ∨ r b a) → (tr : ∀ {a b c}, r a b → r b c → r a c) →
    (comp.go (fun a b => decide (a = b)) p l).Pairwise r ∧ ∀ x ∈ comp.go (fun a b => decide (a = b)) p l, r p x
  | p, [], _, _, _ => by simp [comp.go]
  | p, b :: l, h, tri, tr => by
    rw [List.pairwise_cons] at h
    have ih := go_strict asy b l h.2 tri tr
    rw [comp.go]
    by_cases e : b = p
    · subst e; rw [if_pos (by simp)]; exact ih
    · rw [if_neg (by simpa using e)]
      have hpb : r p b := by
        rcases tri p b with h1 | h1 | h1
        · exact h1
        · exact absurd h1.symm e
        · exact absurd h1 (h.1 b (List.mem_cons_self ..))
      refine ⟨List.pairwise_cons.2 ⟨ih.2, ih.1⟩, fun x hx => ?_⟩
      rcases List.mem_cons.1 hx with rfl | hx
      · exact hpb
      · exact tr hpb (ih.2 x hx)
/-- Compact of an ordered list is strictly ascending. -/
theorem comp_strict {α : Type} [DecidableEq α] {r : α → α → Prop} (asy : ∀ {a b}, r a b → ¬ r b a) (tri : ∀ a b, r a b ∨ a = b ∨ r b a) (tr : ∀ {a b c}, r a b → r b c → r a c) (l : List α) (h : l.Pairwise (fun a b => ¬ r b a)) :
    (comp (fun a b => decide (a = b)) l).Pairwise r := by
  cases l with
  | nil => simp [comp]
  | cons a l =>
    have := go_strict asy a l h tri tr
    exact List.pairwise_cons.2 ⟨this.2, this.1⟩

/-! ## Insertion into an ascending list -/
def ins {α : Type} (out : List α) (p : Nat) (c : α) : List α := out.take p ++ c :: out.drop p
theorem mem_ins {α : Type} (out : List α) (p : Nat) (c x : α) : x ∈ ins out p c ↔ x = c ∨ x ∈ out := by
  unfold ins
  rw [List.mem_append, List.mem_cons]
  constructor
  · rintro (h | h | h)
    · exact .inr (List.mem_of_mem_take h)
    · exact .inl h
    · exact .inr (List.mem_of_mem_drop h)
  · rintro (h | h)
    · exact .inr (.inl h)
    · rw [← List.take_append_drop p out, List.mem_append] at h
      rcases h with h | h
      · exact .inl h
      · exact .inr (.inr h)
theorem length_ins {α : Type} (out : List α) (p : Nat) (c : α) (h : p ≤ out.length) : (ins out p c).length = out.length + 1 := by
  unfold ins; simp; omega
theorem ins_asc {α : Type} [Inhabited α] {r : α → α → Prop} (tr : ∀ {a b c}, r a b → r b c → r a c) (out : List α) (p : Nat) (c : α) (hp : p ≤ out.length) (ha : out.Pairwise r)
    (h1 : ∀ t, t < p → r out[t]! c) (h2 : p < out.length → r c out[p]!) : (ins out p c).Pairwise r := by
  unfold ins
  rw [List.pairwise_append, List.pairwise_cons]
  have hd : ∀ x ∈ out.drop p, r c x := fun x hx => by
    have hl : p < out.length := by
      rcases Nat.lt_or_ge p out.length with h | h
      · exact h
      · rw [List.drop_eq_nil_of_le h] at hx; simp at hx
    rw [List.drop_eq_getElem_cons hl] at hx
    have h0 : r c out[p] := by have := h2 hl; rwa [getElem!_pos out p hl] at this
    have ha2 := ha.sublist (List.drop_sublist p out)
    rw [List.drop_eq_getElem_cons hl, List.pairwise_cons] at ha2
    rcases List.mem_cons.1 hx with rfl | hx
    · exact h0
    · exact tr h0 (ha2.1 x hx)
  have ht : ∀ x ∈ out.take p, r x c := fun x hx => by
    obtain ⟨i, hi, rfl⟩ := List.mem_iff_getElem.1 hx
    have hi' : i < p := by simp at hi; omega
    have := h1 i hi'
    rw [getElem!_pos out i (by omega)] at this
    simpa using this
  refine ⟨ha.sublist (List.take_sublist p out), ⟨hd, ha.sublist (List.drop_sublist p out)⟩, fun x hx y hy => ?_⟩
  rcases List.mem_cons.1 hy with rfl | hy
  · exact ht x hx
  · exact tr (ht x hx) (hd y hy)


theorem mem_take_succ {α : Type} {l : List α} {i : Nat} (hi : i < l.length) (x : α) : x ∈ l.take (i + 1) ↔ x ∈ l.take i ∨ x = l[i] := by
  rw [List.take_succ_eq_append_getElem hi, List.mem_append, List.mem_singleton]
theorem go_range {α : Type} [Inhabited α] (eq : α → α → Bool) : ∀ (p : α) (l : List α), comp.go eq p l = ((List.range l.length).filter fun j => !eq l[j]! (if j = 0 then p else l[j - 1]!)).map (l[·]!)
  | _, [] => rfl
  | p, b :: r => by
    have ih := go_range eq b r
    have e : (List.map Nat.succ (List.range r.length)).filter (fun j => !eq (b :: r)[j]! (if j = 0 then p else (b :: r)[j - 1]!)) = List.map Nat.succ ((List.range r.length).filter fun j => !eq r[j]! (if j = 0 then b else r[j - 1]!)) := by
      rw [List.filter_map]
      congr 1
      apply List.filter_congr
      intro j hj
      cases j with
      | zero => simp
      | succ j => simp
    rw [comp.go, List.length_cons, List.range_succ_eq_map, List.filter_cons, e]
    by_cases h : eq b p = true
    · simp [h, ih, List.map_map, Function.comp_def]
    · simp [h, ih, List.map_map, Function.comp_def]
/-- Which places compact keeps. -/
def kpE {α : Type} [Inhabited α] (eq : α → α → Bool) (d : Array α) (j : Nat) : Bool := decide (j = 0) || !eq d[j]! d[j - 1]!
theorem comp_kept {α : Type} [Inhabited α] (eq : α → α → Bool) (d : Array α) : keptUpTo (kpE eq d) d d.size = comp eq d.toList := by
  obtain ⟨l⟩ := d
  unfold keptUpTo
  cases l with
  | nil => rfl
  | cons a r =>
    rw [comp, go_range]
    show ((List.range (a :: r).length).filter _).map _ = _
    rw [List.length_cons, List.range_succ_eq_map, List.filter_cons]
    have e : (List.map Nat.succ (List.range r.length)).filter (kpE eq ⟨a :: r⟩) = List.map Nat.succ ((List.range r.length).filter fun j => !eq r[j]! (if j = 0 then a else r[j - 1]!)) := by
      rw [List.filter_map]
      congr 1
      apply List.filter_congr
      intro j hj
      cases j with
      | zero => simp [kpE]
      | succ j => simp [kpE]
    rw [e]
    simp [kpE, List.map_map, Function.comp_def]
theorem comp_small {α : Type} (eq : α → α → Bool) (d : Array α) (h : d.size < 2) : comp eq d.toList = d.toList := by
  obtain ⟨l⟩ := d
  match l, h with
  | [], _ => rfl
  | [a], _ => rfl
  | _ :: _ :: _, h => simp at h; omega

/-! ## A total order, as a comparison -/
structure Tot {α : Type} (cmp : α → α → Int) : Prop where
  irr : ∀ a, ¬ cmp a a < 0
  tr : ∀ {a b c}, cmp a b < 0 → cmp b c < 0 → cmp a c < 0
  tri : ∀ a b, cmp a b < 0 ∨ a = b ∨ cmp b a < 0
section
variable {α : Type} {cmp : α → α → Int}
theorem Tot.as (h : Tot cmp) {a b : α} (k : cmp a b < 0) : ¬ cmp b a < 0 := fun k' => h.irr a (h.tr k k')
theorem Tot.swo (h : Tot cmp) : SWO (ltOf cmp) where
  irrefl x := by unfold ltOf; exact decide_eq_false (h.irr x)
  trans x y z h1 h2 := by unfold ltOf at *; exact decide_eq_true (h.tr (of_decide_eq_true h1) (of_decide_eq_true h2))
  ntrans x y z h1 h2 := by
    unfold ltOf at *
    have h1 := of_decide_eq_false h1
    have h2 := of_decide_eq_false h2
    refine decide_eq_false fun k => ?_
    rcases h.tri x y with a | a | a
    · exact h1 a
    · subst a; exact h2 k
    · exact h2 (h.tr a k)
theorem Tot.tot (h : Tot cmp) (x y : α) (h1 : ltOf cmp x y = false) (h2 : ltOf cmp y x = false) : x = y := by
  unfold ltOf at *
  rcases h.tri x y with a | a | a
  · exact absurd a (of_decide_eq_false h1)
  · exact a
  · exact absurd a (of_decide_eq_false h2)
/-- A list put in order. -/
def ascL (cmp : α → α → Int) (l : List α) : List α := l.mergeSort fun x y => !decide (cmp y x < 0)
theorem ascL_pair (h : Tot cmp) (l : List α) : (ascL cmp l).Pairwise fun a b => ¬ cmp b a < 0 := by
  have := List.pairwise_mergeSort (le := fun x y => !decide (cmp y x < 0)) (by
    intro a b c h1 h2
    simp only [Bool.not_eq_true', decide_eq_false_iff_not] at *
    intro k
    rcases h.tri a b with h3 | h3 | h3
    · exact h2 (h.tr k h3)
    · subst h3; exact h2 k
    · exact h1 h3) (by
    intro a b
    simp only [Bool.or_eq_true, Bool.not_eq_true', decide_eq_false_iff_not]
    rcases h.tri a b with k | k | k
    · exact .inl (h.as k)
    · subst k; exact .inl (h.irr _)
    · exact .inr (h.as k)) l
  unfold ascL
  exact this.imp fun k => by simpa using k
theorem mem_ascL (l : List α) (x : α) : x ∈ ascL cmp l ↔ x ∈ l := (List.mergeSort_perm l _).mem_iff
theorem ascL_length (l : List α) : (ascL cmp l).length = l.length := (List.mergeSort_perm _ _).length_eq
variable [DecidableEq α]
/-- A list as a set in ascending order. -/
def setL (cmp : α → α → Int) (l : List α) : List α := comp (fun a b => decide (a = b)) (ascL cmp l)
theorem mem_setL (l : List α) (x : α) : x ∈ setL cmp l ↔ x ∈ l := by unfold setL; rw [mem_comp_iff, mem_ascL]
theorem setL_asc (h : Tot cmp) (l : List α) : (setL cmp l).Pairwise fun a b => cmp a b < 0 := comp_strict (r := fun a b => cmp a b < 0) (fun k => h.as k) h.tri (fun k k' => h.tr k k') _ (ascL_pair h _)
theorem setL_unique (h : Tot cmp) (l m : List α) (ha : m.Pairwise fun a b => cmp a b < 0) (hm : ∀ x, x ∈ m ↔ x ∈ l) : m = setL cmp l :=
  asc_unique (r := fun a b => cmp a b < 0) h.irr (fun k k' => h.tr k k') _ _ ha (setL_asc h l) fun x => by rw [hm, mem_setL]
theorem setL_congr (h : Tot cmp) {l m : List α} (k : ∀ x, x ∈ l ↔ x ∈ m) : setL cmp l = setL cmp m := setL_unique h m _ (setL_asc h l) fun x => by rw [mem_setL, k]
theorem setL_length (l : List α) : (setL cmp l).length ≤ l.length := by
  unfold setL
  refine Nat.le_trans (comp_length _ _) ?_
  rw [ascL_length]; exact Nat.le_refl _
end
/-- A set while it is collected: of the first i elements. -/
def UnI {α : Type} (cmp : α → α → Int) (l : List α) (i : Nat) (out : List α) : Prop := out.length ≤ i ∧ out.Pairwise (fun a b => cmp a b < 0) ∧ ∀ x, x ∈ out ↔ x ∈ l.take i
theorem UnI.start {α : Type} {cmp : α → α → Int} (l : List α) : UnI cmp l 0 [] := ⟨Nat.le_refl _, List.Pairwise.nil, fun x => by simp⟩
theorem UnI.same {α : Type} [Inhabited α] {cmp : α → α → Int} {l : List α} {i : Nat} {out : List α} (h : UnI cmp l i out) (hi : i < l.length) (p : Nat) (hp : p < out.length) (he : out[p]! = l[i]) : UnI cmp l (i + 1) out := by
  have hm : out[p]! ∈ out := by rw [getElem!_pos out p hp]; exact List.getElem_mem hp
  refine ⟨by have := h.1; omega, h.2.1, fun x => ?_⟩
  rw [h.2.2 x, mem_take_succ hi]
  constructor
  · exact .inl
  · rintro (h1 | rfl)
    · exact h1
    · rw [← he]; exact (h.2.2 _).1 hm
theorem UnI.put {α : Type} [Inhabited α] {cmp : α → α → Int} (T : Tot cmp) {l : List α} {i : Nat} {out : List α} (h : UnI cmp l i out) (hi : i < l.length) (p : Nat) (hp : p ≤ out.length) (h1 : ∀ t, t < p → cmp out[t]! l[i] < 0)
    (h2 : p < out.length → ¬ cmp out[p]! l[i] < 0) (he : p < out.length → out[p]! ≠ l[i]) : UnI cmp l (i + 1) (ins out p l[i]) := by
  refine ⟨by rw [length_ins _ _ _ hp]; have := h.1; omega, ins_asc (r := fun a b => cmp a b < 0) (fun a b => T.tr a b) out p l[i] hp h.2.1 h1 (fun hl => ?_), fun x => ?_⟩
  · rcases T.tri l[i] out[p]! with h3 | h3 | h3
    · exact h3
    · exact absurd h3.symm (he hl)
    · exact absurd h3 (h2 hl)
  · rw [mem_ins, h.2.2 x, mem_take_succ hi]
    constructor
    · rintro (h3 | h3)
      · exact .inr h3
      · exact .inl h3
    · rintro (h3 | h3)
      · exact .inr h3
      · exact .inl h3
theorem UnI.done {α : Type} [DecidableEq α] {cmp : α → α → Int} (T : Tot cmp) {l out : List α} (h : UnI cmp l l.length out) : out = setL cmp l :=
  setL_unique T l out h.2.1 fun x => by rw [h.2.2 x, List.take_length]

/-! ## Lexicographic order -/
def cmpI (a b : Int) : Int := if a < b then -1 else if b < a then 1 else 0
theorem cmpI_neg (a b : Int) : cmpI a b < 0 ↔ a < b := by unfold cmpI; split <;> (try split) <;> omega
theorem cmpI_pos (a b : Int) : 0 < cmpI a b ↔ b < a := by unfold cmpI; split <;> (try split) <;> omega
theorem cmpI_zero (a b : Int) : cmpI a b = 0 ↔ a = b := by unfold cmpI; split <;> (try split) <;> omega
theorem cmpI_bd (x y : Int) : -1 ≤ cmpI x y ∧ cmpI x y ≤ 1 := by unfold cmpI; split <;> (try split) <;> omega
def cmpL : List Int → List Int → Int
  | a :: l, b :: m => if cmpI a b ≠ 0 then cmpI a b else cmpL l m
  | _, _ => 0
theorem cmpL_bd : ∀ l m : List Int, -1 ≤ cmpL l m ∧ cmpL l m ≤ 1
  | [], _ => by simp [cmpL]
  | _ :: _, [] => by simp [cmpL]
  | a :: l, b :: m => by
    unfold cmpL
    split
    · exact cmpI_bd a b
    · exact cmpL_bd l m
theorem cmpL_self : ∀ l : List Int, cmpL l l = 0
  | [] => rfl
  | a :: l => by unfold cmpL; rw [if_neg (by simp [(cmpI_zero a a).2 rfl])]; exact cmpL_self l
theorem cmpL_cons (a b : Int) (l m : List Int) : cmpL (a :: l) (b :: m) < 0 ↔ a < b ∨ (a = b ∧ cmpL l m < 0) := by
  have z := cmpI_zero a b
  have n := cmpI_neg a b
  rw [cmpL]
  by_cases h : cmpI a b = 0
  · rw [if_neg (by simpa using h)]
    have e := z.1 h
    constructor
    · exact fun k => .inr ⟨e, k⟩
    · rintro (k | k)
      · omega
      · exact k.2
  · rw [if_pos h, n]
    constructor
    · exact .inl
    · rintro (k | k)
      · exact k
      · exact absurd (z.2 k.1) h
theorem cmpL_tr : ∀ {l m k : List Int}, cmpL l m < 0 → cmpL m k < 0 → cmpL l k < 0
  | [], _, _, h, _ => by simp [cmpL] at h
  | _ :: _, [], _, h, _ => by simp [cmpL] at h
  | _ :: _, _ :: _, [], _, h => by simp [cmpL] at h
  | a :: l, b :: m, c :: k, h1, h2 => by
    rw [cmpL_cons] at *
    rcases h1 with h1 | ⟨rfl, h1⟩ <;> rcases h2 with h2 | ⟨rfl, h2⟩
    · exact .inl (by omega)
    · exact .inl h1
    · exact .inl h2
    · exact .inr ⟨rfl, cmpL_tr h1 h2⟩
theorem cmpL_tri : ∀ {l m : List Int}, l.length = m.length → cmpL l m < 0 ∨ l = m ∨ cmpL m l < 0
  | [], [], _ => .inr (.inl rfl)
  | [], _ :: _, h => by simp at h
  | _ :: _, [], h => by simp at h
  | a :: l, b :: m, h => by
    rw [cmpL_cons, cmpL_cons]
    rcases Int.lt_trichotomy a b with k | k | k
    · exact .inl (.inl k)
    · subst k
      rcases cmpL_tri (l := l) (m := m) (by simpa using h) with k | k | k
      · exact .inl (.inr ⟨rfl, k⟩)
      · exact .inr (.inl (by rw [k]))
      · exact .inr (.inr (.inr ⟨rfl, k⟩))
    · exact .inr (.inr (.inl k))
theorem tot_of {α : Type} (f : α → List Int) (inj : ∀ a b, f a = f b → a = b) (len : ∀ a b, (f a).length = (f b).length) : Tot fun a b => cmpL (f a) (f b) where
  irr a := by rw [cmpL_self]; omega
  tr h h' := cmpL_tr h h'
  tri a b := by
    rcases cmpL_tri (len a b) with h | h | h
    · exact .inl h
    · exact .inr (.inl (inj a b h))
    · exact .inr (.inr h)
end Go.Proofs.Ytebdldinlodgpaa.Gm
