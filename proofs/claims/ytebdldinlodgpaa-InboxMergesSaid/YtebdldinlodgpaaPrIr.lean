/-
  Layer 8 (inbox): mathematics of Effective: the events that count, what is cancelled, what is corrected; the map of places; order. No condition.
-/
import Derived.Test.YtebdldinlodgpaaPrIm
import Derived.Test.YtebdldinlodgpaaPrIk
import Derived.Test.YtebdldinlodgpaaPrIo
import Derived.Shelf.SlSortCmp.WholeK
namespace Go.Proofs.Ytebdldinlodgpaa.Ib
open Go Go.RowKit Go.Lib Go.Sort Go.Shelf Go.Proofs Go.Proofs.Ytebdldinlodgpaa Go.Proofs.Ytebdldinlodgpaa.Tp Go.Proofs.Ytebdldinlodgpaa.Gm Go.Proofs.Ytebdldinlodgpaa.Rc Go.Proofs.Ytebdldinlodgpaa.SS
set_option linter.unusedVariables false

/-! ## Order -/
def cmpS (a b : St) : Int := cmpL [a.ti, a.kt, a.ks, a.ki] [b.ti, b.kt, b.ks, b.ki]
/-- As the program compares stamps. -/
def cmp3 (a b : St) : Int := cmpL [a.ti, a.kt, a.ks] [b.ti, b.kt, b.ks]
theorem totS : Tot cmpS := tot_of (fun s : St => [s.ti, s.kt, s.ks, s.ki]) (fun a b h => by
  obtain ⟨a0, a1, a2, a3⟩ := a
  obtain ⟨b0, b1, b2, b3⟩ := b
  simp only [List.cons.injEq, and_true] at h
  obtain ⟨rfl, rfl, rfl, rfl⟩ := h
  rfl) (fun a b => rfl)
theorem cmp3_S {a b : St} (h : cmp3 a b < 0) : cmpS a b < 0 := by
  unfold cmp3 at h
  unfold cmpS
  rw [cmpL_cons, cmpL_cons, cmpL_cons] at *
  simp only [cmpL] at h
  rcases h with h | ⟨h0, h | ⟨h1, h | ⟨h2, h3⟩⟩⟩
  · exact .inl h
  · exact .inr ⟨h0, .inl h⟩
  · exact .inr ⟨h0, .inr ⟨h1, .inl h⟩⟩
  · exact absurd h3 (by decide)
theorem cmpS_3 {a b : St} (h : cmpS a b < 0) (hk : ¬ (a.kt = b.kt ∧ a.ks = b.ks)) : cmp3 a b < 0 := by
  unfold cmpS at h
  unfold cmp3
  rw [cmpL_cons, cmpL_cons, cmpL_cons] at *
  rcases h with h | ⟨h0, h | ⟨h1, h | ⟨h2, h3⟩⟩⟩
  · exact .inl h
  · exact .inr ⟨h0, .inl h⟩
  · exact .inr ⟨h0, .inr ⟨h1, .inl h⟩⟩
  · exact absurd ⟨h1, h2⟩ hk
theorem cmp3_irr (a : St) : ¬ cmp3 a a < 0 := by unfold cmp3; rw [cmpL_self]; omega
theorem swo3 : SWO (ltOf cmp3) where
  irrefl x := by unfold ltOf; exact decide_eq_false (cmp3_irr x)
  trans x y z h1 h2 := by unfold ltOf at *; exact decide_eq_true (cmpL_tr (of_decide_eq_true h1) (of_decide_eq_true h2))
  ntrans x y z h1 h2 := by
    unfold ltOf at *
    have h1 := of_decide_eq_false h1
    have h2 := of_decide_eq_false h2
    refine decide_eq_false fun k => ?_
    unfold cmp3 at *
    rcases cmpL_tri (l := [x.ti, x.kt, x.ks]) (m := [y.ti, y.kt, y.ks]) rfl with a | a | a
    · exact h1 a
    · rw [a] at k; exact h2 k
    · exact h2 (cmpL_tr a k)
/-! ## Keys that ascend -/
def cmpK (a b : Ev) : Int := cmpL [a.kt, a.ks] [b.kt, b.ks]
theorem eqKE_iff (a b : Ev) : eqKE a b = true ↔ a.kt = b.kt ∧ a.ks = b.ks := by unfold eqKE eqK2; simp
theorem cmpK_of {a b : Ev} (h : ¬ cmpK b a < 0) (hn : eqKE b a = false) : cmpK a b < 0 := by
  unfold cmpK at *
  rcases cmpL_tri (l := [a.kt, a.ks]) (m := [b.kt, b.ks]) rfl with k | k | k
  · exact k
  · simp only [List.cons.injEq, and_true] at k
    have := (eqKE_iff b a).2 ⟨k.1.symm, k.2.symm⟩
    rw [hn] at this; cases this
  · exact absurd k h
theorem cmpK_E {a b : Ev} (h : cmpE a b < 0) : ¬ cmpK b a < 0 := by
  intro k
  refine totE.as h ?_
  unfold cmpE nsE
  unfold cmpK at k
  rw [cmpL_cons, cmpL_cons] at *
  simp only [cmpL] at k
  rcases k with k | ⟨k0, k | ⟨k1, k2⟩⟩
  · exact .inl k
  · exact .inr ⟨k0, .inl k⟩
  · exact absurd k2 (by decide)
theorem go_keys : ∀ (p : Ev) (l : List Ev), (p :: l).Pairwise (fun a b => ¬ cmpK b a < 0) → (comp.go eqKE p l).Pairwise (fun a b => cmpK a b < 0) ∧ ∀ x ∈ comp.go eqKE p l, cmpK p x < 0
  | p, [], _ => by simp [comp.go]
  | p, b :: l, h => by
    rw [List.pairwise_cons] at h
    have ih := go_keys b l h.2
    rw [comp.go]
    cases e : eqKE b p with
    | true =>
      rw [if_pos rfl]
      refine ⟨ih.1, fun x hx => ?_⟩
      have hk := (eqKE_iff b p).1 e
      have := ih.2 x hx
      unfold cmpK at *
      rw [← hk.1, ← hk.2]; exact this
    | false =>
      rw [if_neg (by simp)]
      have hpb := cmpK_of (h.1 b (List.mem_cons_self ..)) e
      refine ⟨List.pairwise_cons.2 ⟨ih.2, ih.1⟩, fun x hx => ?_⟩
      rcases List.mem_cons.1 hx with rfl | hx
      · exact hpb
      · exact cmpL_tr hpb (ih.2 x hx)
theorem cntL_keys (l : List Ev) : (cntL l).Pairwise fun a b => cmpK a b < 0 := by
  unfold cntL
  have h := (setL_asc totE l).imp (fun {a b} k => cmpK_E k)
  cases hs : setL cmpE l with
  | nil => simp [comp]
  | cons a r =>
    rw [hs] at h
    have := go_keys a r h
    rw [comp]
    exact List.pairwise_cons.2 ⟨this.2, this.1⟩
theorem mem_cntL {l : List Ev} {e : Ev} (h : e ∈ cntL l) : e ∈ l := (mem_setL l e).1 (mem_comp eqKE _ e h)
/-! ## What is effective -/
def isS (e : Ev) : Bool := decide (e.ki ≤ 4)
def stOf (e : Ev) : St := ⟨e.ti, e.ki, e.kt, e.ks⟩
def recL (own : List Ev) : List St := (own.filter isS).map stOf
def cancB (l : List Ev) (s : St) : Bool := l.any fun y => decide (y.ki = 5) && (decide (y.tt = s.kt) && decide (y.ts = s.ks))
def fixT (l : List Ev) (s : St) : Int := l.foldl (fun t y => if y.ki = 6 ∧ y.tt = s.kt ∧ y.ts = s.ks then y.ti else t) s.ti
def fixS (l : List Ev) (s : St) : St := ⟨fixT l s, s.ki, s.kt, s.ks⟩
def ownL (l : List Ev) (emp : Int) : List Ev := (cntL l).filter fun e => decide (e.em = emp)
def effU (own : List Ev) : List St := ((recL own).filter fun s => !cancB own s).map (fixS own)
def effL (l : List Ev) (emp : Int) : List St := setL cmpS (effU (ownL l emp))
theorem cancB_succ {own : List Ev} {k : Nat} (hk : k < own.length) (s : St) : cancB (own.take (k + 1)) s = (cancB (own.take k) s || (decide (own[k]!.ki = 5) && (decide (own[k]!.tt = s.kt) && decide (own[k]!.ts = s.ks)))) := by
  unfold cancB
  rw [List.take_succ_eq_append_getElem hk, List.any_append, ← getElem!_pos own k hk]
  simp
theorem fixT_succ {own : List Ev} {k : Nat} (hk : k < own.length) (s : St) : fixT (own.take (k + 1)) s = if own[k]!.ki = 6 ∧ own[k]!.tt = s.kt ∧ own[k]!.ts = s.ks then own[k]!.ti else fixT (own.take k) s := by
  unfold fixT
  rw [List.take_succ_eq_append_getElem hk, List.foldl_append, ← getElem!_pos own k hk]
  simp
/-- The map of places. -/
def Inn (rs : List St) (g : Int → Int → Option Int) : Prop := ∀ a b v, g a b = some v → ∃ j : Nat, j < rs.length ∧ v = (j : Int) ∧ rs[j]!.kt = a ∧ rs[j]!.ks = b
def RecI (rs : List St) (g : Int → Int → Option Int) : Prop := (∀ j, j < rs.length → g rs[j]!.kt rs[j]!.ks = some (j : Int)) ∧ Inn rs g
theorem RecI.start : RecI [] (fun _ _ => none) := ⟨fun j h => by simp at h, fun a b v h => by cases h⟩
theorem get_app_lt {α : Type} [Inhabited α] {l m : List α} {j : Nat} (h : j < l.length) : (l ++ m)[j]! = l[j]! := by
  rw [getElem!_pos (l ++ m) j (by rw [List.length_append]; omega), getElem!_pos l j h, List.getElem_append_left h]
theorem get_app_eq {α : Type} [Inhabited α] (l : List α) (x : α) : (l ++ [x])[l.length]! = x := by
  rw [getElem!_pos (l ++ [x]) l.length (by simp)]; simp
theorem RecI.step {rs : List St} {g : Int → Int → Option Int} (h : RecI rs g) (s : St) (hs : ∀ j, j < rs.length → ¬ (rs[j]!.kt = s.kt ∧ rs[j]!.ks = s.ks)) : RecI (rs ++ [s]) (putF g s.kt s.ks (some (rs.length : Int))) := by
  refine ⟨fun j hj => ?_, fun a b v hv => ?_⟩
  · unfold putF
    by_cases e : j < rs.length
    · rw [get_app_lt e, if_neg (hs j e)]; exact h.1 j e
    · have : j = rs.length := by simp at hj; omega
      subst this
      rw [get_app_eq, if_pos ⟨rfl, rfl⟩]
  · unfold putF at hv
    split at hv
    · rename_i e
      injection hv with hv
      exact ⟨rs.length, by simp, hv.symm, by rw [get_app_eq]; exact e.1.symm, by rw [get_app_eq]; exact e.2.symm⟩
    · obtain ⟨j, h1, h2, h3, h4⟩ := h.2 a b v hv
      exact ⟨j, by simp; omega, h2, by rw [get_app_lt h1]; exact h3, by rw [get_app_lt h1]; exact h4⟩
theorem recL_succ {own : List Ev} {k : Nat} (hk : k < own.length) : recL (own.take (k + 1)) = recL (own.take k) ++ (if isS own[k]! then [stOf own[k]!] else []) := by
  unfold recL
  rw [List.take_succ_eq_append_getElem hk, List.filter_append, List.map_append, ← getElem!_pos own k hk]
  generalize own[k]! = e
  by_cases h : isS e = true
  · simp [h]
  · simp [h]
theorem recL_apart {own : List Ev} (hk : own.Pairwise fun a b => cmpK a b < 0) {k : Nat} (h : k < own.length) : ∀ j, j < (recL (own.take k)).length → ¬ ((recL (own.take k))[j]!.kt = own[k]!.kt ∧ (recL (own.take k))[j]!.ks = own[k]!.ks) := by
  intro j hj e
  have hm : (recL (own.take k))[j]! ∈ recL (own.take k) := by rw [getElem!_pos _ j hj]; exact List.getElem_mem hj
  unfold recL at hm e
  obtain ⟨x, hx, hxe⟩ := List.mem_map.1 hm
  have hx2 := (List.mem_filter.1 hx).1
  obtain ⟨i, hi, rfl⟩ := List.mem_iff_getElem.1 hx2
  have hi' : i < k := by simp at hi; omega
  have hp := List.pairwise_iff_getElem.1 hk i k (by omega) h hi'
  rw [← hxe] at e
  rw [getElem!_pos own k h] at e
  simp only [stOf, List.getElem_take] at e
  unfold cmpK at hp
  rw [e.1, e.2, cmpL_self] at hp
  exact absurd hp (by decide)
/-- The stamps and the map while the events are gone through. -/
structure EffI (own : List Ev) (rs : List St) (k : Nat) (ss : List St) (g : Int → Int → Option Int) : Prop where
  len : ss.length = rs.length
  nm : ∀ j, j < rs.length → ss[j]!.ki = rs[j]!.ki ∧ ss[j]!.kt = rs[j]!.kt ∧ ss[j]!.ks = rs[j]!.ks
  mp : ∀ j, j < rs.length → g rs[j]!.kt rs[j]!.ks = if cancB (own.take k) rs[j]! then none else some (j : Int)
  ti : ∀ j, j < rs.length → cancB (own.take k) rs[j]! = false → ss[j]!.ti = fixT (own.take k) rs[j]!
  inn : Inn rs g
theorem EffI.start {own : List Ev} {rs : List St} {g : Int → Int → Option Int} (h : RecI rs g) : EffI own rs 0 rs g where
  len := rfl
  nm j _ := ⟨rfl, rfl, rfl⟩
  mp j hj := by rw [h.1 j hj]; simp [cancB]
  ti j _ _ := by simp [fixT]
  inn := h.2
section
variable {own : List Ev} {rs ss : List St} {k : Nat} {g : Int → Int → Option Int}
theorem EffI.skip (h : EffI own rs k ss g) (hk : k < own.length) (hc : g own[k]!.tt own[k]!.ts = none ∨ (own[k]!.ki ≠ 5 ∧ own[k]!.ki ≠ 6)) : EffI own rs (k + 1) ss g := by
  have key : ∀ j, j < rs.length → cancB (own.take k) rs[j]! = false → ¬ (own[k]!.ki = 5 ∧ own[k]!.tt = rs[j]!.kt ∧ own[k]!.ts = rs[j]!.ks) ∧ ¬ (own[k]!.ki = 6 ∧ own[k]!.tt = rs[j]!.kt ∧ own[k]!.ts = rs[j]!.ks) := fun j hj hb => by
    rcases hc with hc | hc
    · have hm := h.mp j hj
      rw [hb, if_neg (by simp)] at hm
      have : ¬ (own[k]!.tt = rs[j]!.kt ∧ own[k]!.ts = rs[j]!.ks) := fun e => by rw [e.1, e.2, hm] at hc; cases hc
      exact ⟨fun e => this e.2, fun e => this e.2⟩
    · exact ⟨fun e => hc.1 e.1, fun e => hc.2 e.1⟩
  have hcn : ∀ j, j < rs.length → cancB (own.take (k + 1)) rs[j]! = cancB (own.take k) rs[j]! := fun j hj => by
    rw [cancB_succ hk]
    cases hb : cancB (own.take k) rs[j]! with
    | true => rfl
    | false =>
      have := (key j hj hb).1
      simp only [Bool.false_or]
      generalize own[k]! = c at *
      generalize rs[j]! = r at *
      rw [Bool.eq_false_iff]
      intro hh
      simp only [Bool.and_eq_true, decide_eq_true_eq] at hh
      exact this hh
  refine ⟨h.len, h.nm, fun j hj => by rw [hcn j hj]; exact h.mp j hj, fun j hj hb => ?_, h.inn⟩
  rw [hcn j hj] at hb
  rw [fixT_succ hk, if_neg (key j hj hb).2]
  exact h.ti j hj hb
theorem EffI.cancel (h : EffI own rs k ss g) (hk : k < own.length) (hc : own[k]!.ki = 5) : EffI own rs (k + 1) ss (putF g own[k]!.tt own[k]!.ts none) := by
  refine ⟨h.len, h.nm, fun j hj => ?_, fun j hj hb => ?_, fun a b v hv => ?_⟩
  · rw [cancB_succ hk]
    unfold putF
    by_cases e : rs[j]!.kt = own[k]!.tt ∧ rs[j]!.ks = own[k]!.ts
    · rw [if_pos e, if_pos (by rw [hc, e.1, e.2]; simp)]
    · rw [if_neg e, h.mp j hj]
      have e2 : (decide (own[k]!.tt = rs[j]!.kt) && decide (own[k]!.ts = rs[j]!.ks)) = false := by
        rw [Bool.eq_false_iff]
        intro hh
        simp only [Bool.and_eq_true, decide_eq_true_eq] at hh
        exact e ⟨hh.1.symm, hh.2.symm⟩
      rw [e2]
      simp
  · rw [cancB_succ hk] at hb
    rw [fixT_succ hk, if_neg (by omega)]
    exact h.ti j hj (by cases hh : cancB (own.take k) rs[j]! <;> simp_all)
  · unfold putF at hv
    split at hv
    · cases hv
    · exact h.inn a b v hv
theorem get_set_eq {α : Type} [Inhabited α] {l : List α} {i : Nat} (h : i < l.length) (x : α) : (l.set i x)[i]! = x := by rw [getElem!_pos _ i (by simpa using h)]; simp
theorem get_set_ne {α : Type} [Inhabited α] {l : List α} {i j : Nat} (h : j < l.length) (hn : i ≠ j) (x : α) : (l.set i x)[j]! = l[j]! := by
  rw [getElem!_pos _ j (by simpa using h), getElem!_pos l j h, List.getElem_set_ne hn]
theorem EffI.correct (h : EffI own rs k ss g) (hk : k < own.length) (hc : own[k]!.ki = 6) {i : Nat} (hi : i < rs.length) (hg : g own[k]!.tt own[k]!.ts = some (i : Int)) : EffI own rs (k + 1) (ss.set i ⟨own[k]!.ti, ss[i]!.ki, ss[i]!.kt, ss[i]!.ks⟩) g := by
  have hcn : ∀ s, cancB (own.take (k + 1)) s = cancB (own.take k) s := fun s => by rw [cancB_succ hk, hc]; simp
  refine ⟨by rw [List.length_set]; exact h.len, fun j hj => ?_, fun j hj => by rw [hcn]; exact h.mp j hj, fun j hj hb => ?_, h.inn⟩
  · by_cases e : i = j
    · subst e
      rw [get_set_eq (by rw [h.len]; exact hj)]
      exact h.nm i hj
    · rw [get_set_ne (by rw [h.len]; exact hj) e]
      exact h.nm j hj
  · rw [hcn] at hb
    have hm := h.mp j hj
    rw [hb, if_neg (by simp)] at hm
    rw [fixT_succ hk]
    by_cases e : i = j
    · subst e
      rw [get_set_eq (by rw [h.len]; exact hj)]
      obtain ⟨i', h1, h2, h3, h4⟩ := h.inn _ _ _ hg
      have : i' = i := by omega
      subst this
      rw [if_pos ⟨hc, h3.symm, h4.symm⟩]
    · rw [get_set_ne (by rw [h.len]; exact hj) e, if_neg (fun hh => ?_)]
      · exact h.ti j hj hb
      · rw [hh.2.1, hh.2.2, hm] at hg
        injection hg with hg
        exact e (by omega)
end
theorem filter_map_pt {α : Type} [Inhabited α] (p q : α → Bool) (f : α → α) : ∀ (ss rs : List α), ss.length = rs.length → (∀ j, j < rs.length → p ss[j]! = q rs[j]! ∧ (q rs[j]! = true → ss[j]! = f rs[j]!)) → ss.filter p = (rs.filter q).map f
  | [], [], _, _ => rfl
  | [], _ :: _, h, _ => by simp at h
  | _ :: _, [], h, _ => by simp at h
  | a :: ss, b :: rs, hl, h => by
    have h0 := h 0 (by simp)
    have ih := filter_map_pt p q f ss rs (by simpa using hl) fun j hj => by simpa using h (j + 1) (by simpa using hj)
    simp only [List.getElem!_cons_zero] at h0
    rw [List.filter_cons, List.filter_cons, h0.1, ih]
    cases hq : q b with
    | true => simp [h0.2 hq]
    | false => simp
theorem EffI.done {own : List Ev} {ss : List St} {g : Int → Int → Option Int} (h : EffI own (recL own) own.length ss g) : ss.filter (fun s => (g s.kt s.ks).isSome) = effU own := by
  unfold effU
  refine filter_map_pt _ _ _ _ _ h.len fun j hj => ?_
  obtain ⟨n1, n2, n3⟩ := h.nm j hj
  have hm := h.mp j hj
  have ht := h.ti j hj
  rw [List.take_length] at hm ht
  refine ⟨?_, fun hq => ?_⟩
  · rw [n2, n3, hm]
    cases cancB own (recL own)[j]! <;> rfl
  · have hq2 : cancB own (recL own)[j]! = false := by cases hb : cancB own (recL own)[j]! <;> simp_all
    have t := ht hq2
    generalize ss[j]! = s at *
    generalize (recL own)[j]! = r at *
    obtain ⟨s0, s1, s2, s3⟩ := s
    obtain ⟨r0, r1, r2, r3⟩ := r
    simp only at n1 n2 n3 t
    subst n1 n2 n3 t
    rfl
end Go.Proofs.Ytebdldinlodgpaa.Ib
