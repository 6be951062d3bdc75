/-
  A region that draws its order, whose first n operations read, or call what changes nothing of a class of worlds, and whose rest comes in one order behind them (one choice by a Bool may come late): one walk serves every order. No condition.
-/
import Derived.Test.YtebdldinlodgpaaPrQb
import Derived.StillTail
namespace Go.Proofs.Ytebdldinlodgpaa
open Go Go.RowKit Go.Proofs
set_option linter.unusedVariables false
section
variable {P : Program} {ops : Array Oper} {md : Region.Mode} {C : World → Prop}
/-- As sinkB, but for operation p. -/
def sinkP (md : Region.Mode) (ops : Array Oper) (n p : Nat) : Bool :=
  (List.range n).all fun i => decide (i = p) || (List.range (n + 1)).any fun j => decide (i < j) && decide (j ≠ p) && Region.waitsFor md ops j i
/-- While one of the first n, but p, has not come up, none of the rest may. -/
theorem rest_waits {n p : Nat} {s : Array Bool} (hs : sinkP md ops n p = true) (hc : Region.chainB md ops n = true) (hn : n < ops.size) (inv : HeadInv md ops n s) :
    ∀ (d i : Nat), n - i = d → i < n → i ≠ p → s.getD i true = false → ∀ t, n ≤ t → t ∉ Region.ready md ops s := by
  intro d
  induction d using Nat.strongRecOn with
  | _ d ih =>
    intro i hd hi hp hun t ht hr
    obtain ⟨_, ot, hot, hall⟩ := mem_ready.1 hr
    have htl : t < ops.size := (Array.getElem?_eq_some_iff.1 hot).1
    have same : ∀ o', ops[t]? = some o' → o' = ot := fun o' h => Option.some.inj (h.symm.trans hot)
    rcases Nat.eq_or_lt_of_le ht with rfl | hlt
    · have h1 := List.all_eq_true.1 hs i (List.mem_range.2 hi)
      simp only [Bool.or_eq_true, decide_eq_true_eq] at h1
      rcases h1 with h1 | h1
      · exact hp h1
      · obtain ⟨j, hj, hj2⟩ := List.any_eq_true.1 h1
        simp only [Bool.and_eq_true, decide_eq_true_eq] at hj2
        obtain ⟨oj, hoj, e, he, hb, hon⟩ := Region.waitsFor_spec hj2.2
        by_cases hjt : j = n
        · rw [hjt] at hoj
          have h2 := hall e (by rw [← same _ hoj]; exact he) hb
          rw [hon, getD_both hun] at h2
          exact absurd h2 (by decide)
        · have hjn : j < n := by have := List.mem_range.1 hj; omega
          cases hl : s.getD j false with
          | true =>
            have h2 := inv.closed j oj hoj hl e he hb
            rw [hon, getD_both hun] at h2
            exact absurd h2 (by decide)
          | false => exact ih (n - j) (by omega) j rfl hjn hj2.1.2 (getD_in (by rw [inv.size]; omega) hl) n (Nat.le_refl _) hr
    · have h1 := List.all_eq_true.1 hc t (List.mem_range.2 htl)
      simp only [Bool.or_eq_true, decide_eq_true_eq] at h1
      rcases h1 with h1 | h1
      · omega
      · obtain ⟨o', ho', e, he, hb, hon⟩ := Region.waitsFor_spec h1
        have h2 := hall e (by rw [← same _ ho']; exact he) hb
        rw [hon, getD_both (inv.tail (t - 1) (by omega) (by omega))] at h2
        exact absurd h2 (by decide)
/-- It yields whatever the world is. -/
def PureOp (P : Program) (o : Oper) : Prop := ∀ (a : Act) (C : World → Prop) (w : World) (v : Value), Oper.quietUpon P C w v ((execOp a.eval o).run P w) → ∀ w2, (execOp a.eval o).run P w2 = .ok (.value v) w2
def FreeAt (md : Region.Mode) (ops : Array Oper) (s : Array Bool) (p : Nat) (o : Oper) : Prop :=
  ∀ j oj, ops[j]? = some oj → j ≠ p → s.getD j true = false → (∀ e ∈ oj.after, Region.binds md e = true → e.on ≠ p) → o.apart ops oj = true
/-- Whatever order is picked among the first n: f of them, quiet, and L behind them; p may come up late. -/
def Heads (P : Program) (md : Region.Mode) (ops : Array Oper) (C : World → Prop) (n p : Nat) (L : Array Bool → Act → Prop) : Nat → Array Bool → Act → Prop
  | 0, s, a => L s a
  | f + 1, s, a => Region.ready md ops s ≠ [] ∧ (∀ i ∈ Region.ready md ops s, i < n → qOp P ops C i (Heads P md ops C n p L f (s.setIfInBounds i true)) a) ∧
      ((∀ i ∈ Region.ready md ops s, i < n) ∨ (p < n ∧ p ∈ Region.ready md ops s ∧ ∃ o, ops[p]? = some o ∧ FreeAt md ops s p o))
theorem Heads.any {n p g : Nat} {L : Array Bool → Act → Prop} {Q : Exit → Act → World → Prop} (hsel : Region.noSelect ops = true) (hpure : ∀ o, ops[p]? = some o → PureOp P o) (hQ : ∀ o, ops[p]? = some o → ∀ c a v w, Q (.panic c) (a.put o.dst v) w → Q (.panic c) a w)
    (hL : ∀ s a w, C w → L s a → wpAny P md ops Q g s a w) :
    ∀ (f : Nat) (s : Array Bool) (a : Act) (w : World), C w → Heads P md ops C n p L f s a → wpAny P md ops Q (g + f) s a w
  | 0, s, a, w, hw, h => hL s a w hw h
  | f + 1, s, a, w, hw, h => by
    rcases h.2.2 with h3 | ⟨hpn, hpr, o, ho, hfr⟩
    · exact ⟨fun e => absurd e h.1, fun i hi => wpOp_of_qOp hw (fun a' w' hw' k => Heads.any hsel hpure hQ hL f _ a' w' hw' k) (h.2.1 i hi (h3 i hi))⟩
    · obtain ⟨v, hy, hK⟩ := yieldsIn_of_qOp ho (h.2.1 p hpr hpn)
      refine wpAny_first ho (Region.noSelect_spec hsel) (fun c a w => hQ o ho c a _ w) (g + f) s a w hfr hpr ?_ (Heads.any hsel hpure hQ hL f _ _ w hw hK)
      rcases hy with ⟨h1, h2⟩ | h1
      · exact .inl ⟨h1, hpure o ho a C w v (h2 w hw)⟩
      · exact .inr h1
/-- The head's operation i may be taken first. -/
theorem Heads.take {n p i : Nat} {o : Oper} {v : Value} {L : Array Bool → Act → Prop} (ho : ops[i]? = some o) (hsel : Region.noSelect ops = true) (hs : sinkP md ops n p = true) (hc : Region.chainB md ops n = true) (hn : n < ops.size) (hin : i < n)
    (hL : ∀ s a, L s a → ∀ j ∈ Region.ready md ops s, n ≤ j) (f : Nat) : ∀ (s : Array Bool) (a : Act), HeadInv md ops n s → FreeAt md ops s i o →
      i ∈ Region.ready md ops s → YieldsIn P ops C o v a → Heads P md ops C n p L f (s.setIfInBounds i true) (a.put o.dst v) → Heads P md ops C n p L (f + 1) s a := by
  have low : ∀ s, HeadInv md ops n s → FreeAt md ops s i o → i ∈ Region.ready md ops s → (∀ j ∈ Region.ready md ops s, j < n) ∨ (p < n ∧ p ∈ Region.ready md ops s ∧ ∃ o, ops[p]? = some o ∧ FreeAt md ops s p o) := fun s inv fr hr => by
    by_cases e : i = p
    · exact .inr ⟨e ▸ hin, e ▸ hr, o, e ▸ ho, e ▸ fr⟩
    · exact .inl fun j hj => Nat.lt_of_not_le fun hle => rest_waits hs hc hn inv _ i rfl hin e (mem_ready.1 hr).1 j hle hj
  have some_ : ∀ {s : Array Bool}, i ∈ Region.ready md ops s → Region.ready md ops s ≠ [] := fun hr e => by rw [e] at hr; exact absurd hr List.not_mem_nil
  induction f with
  | zero =>
    intro s a inv fr hr hy H
    refine ⟨some_ hr, fun j hj hjn => ?_, low s inv fr hr⟩
    by_cases e : j = i
    · rw [e]; exact hy.qOp ho H
    · have h1 := hL _ _ H j (ready_mono hj e)
      omega
  | succ f ih =>
    intro s a inv fr hr hy H
    refine ⟨some_ hr, fun j hj hjn => ?_, low s inv fr hr⟩
    by_cases e : j = i
    · rw [e]; exact hy.qOp ho H
    · obtain ⟨hun, oj, hoj, hall⟩ := mem_ready.1 hj
      have nowait : ∀ x ∈ oj.after, Region.binds md x = true → x.on ≠ i := fun x hx hb he => by
        have h1 := hall x hx hb
        rw [he, getD_both (mem_ready.1 hr).1] at h1
        exact absurd h1 (by decide)
      have h2 := qOp_put hoj (fr j oj hoj e hun nowait) (fun cs b => Region.noSelect_spec hsel i o cs b ho) (fun cs b => Region.noSelect_spec hsel j oj cs b hoj) hy (H.2.1 j (ready_mono hj e) hjn)
      refine qOp_mono (fun a' h3 => ih (s.setIfInBounds j true) a' (inv.set hj hjn) (fun k ok hk hki hu hno => fr k ok hk hki ?_ hno) (ready_mono hr (Ne.symm e)) h3.1 ?_) h2
      · by_cases ek : j = k
        · rw [← ek]; exact hun
        · rwa [getD_set_ne true ek] at hu
      · rw [Array.setIfInBounds_comm _ _ e]
        exact h3.2
theorem Heads.walk {n p g : Nat} {L : Act → Prop} (hsel : Region.noSelect ops = true) (hs : sinkP md ops n p = true) (hc : Region.chainB md ops n = true) (hn : n < ops.size) :
    ∀ (l : List Oper) (k : Nat) (s : Array Bool) (a : Act), (∀ j, j < l.length → l[j]? = ops[k + j]?) → k + l.length = n → HeadInv md ops n s → Region.lexHead md ops g l.length k s = true → wpQuiet P ops C L l a →
      Heads P md ops C n p (fun s' a' => Region.seqB md ops g n s' = true ∧ L a') l.length s a
  | [], k, s, a, _, hk, _, hB, h => by
    obtain rfl : k = n := by simpa using hk
    exact ⟨hB, h⟩
  | o :: l, k, s, a, hl, hk, inv, hB, h => by
    have ho : ops[k]? = some o := by simpa using (hl 0 (Nat.zero_lt_succ _)).symm
    simp only [List.length_cons, Region.lexHead, Bool.and_eq_true] at hB
    have hr : k ∈ Region.ready md ops s := by simpa using hB.1.1
    simp only [List.length_cons] at hk
    have hq : qOp P ops C k (wpQuiet P ops C L l) a := by unfold qOp; simp only [ho]; exact h
    obtain ⟨v, hy, hK⟩ := yieldsIn_of_qOp ho hq
    exact Heads.take ho hsel hs hc hn (by omega) (fun s' a' h' => seqB_ready h'.1) l.length s a inv (Region.free_spec ho hB.1.2) hr hy
      (Heads.walk hsel hs hc hn l (k + 1) _ _ (fun j hj => by have := hl (j + 1) (Nat.succ_lt_succ hj); simpa [Nat.add_assoc, Nat.add_comm 1 j] using this) (by omega) (inv.set hr (by omega)) hB.2 hK)
/-- The region's order, as far as this theorem asks it: n operations, then the rest one by one; p may come up late. -/
def lexTailP (ops : Array Oper) (n p : Nat) : Bool :=
  Region.noSelect ops && decide (n < ops.size) && sinkP .any ops n p && Region.chainB .any ops n && Region.lexHead .any ops (ops.size - n) n 0 (Array.replicate ops.size false)
/-- The first n operations are quiet in C, operation p yields whatever the world is; the rest is walked in every world of C. -/
theorem wp_region_quiet_tail {id : Nat} {Q : Exit → Act → World → Prop} {a : Act} {w : World} {l : List Oper} (n p : Nat) (hm : P.follows .mixedOrders = true) (hB : lexTailP l.toArray n p = true) (hpure : ∀ o, l[p]? = some o → PureOp P o)
    (hQ : ∀ o, l[p]? = some o → ∀ c a v w, Q (.panic c) (a.put o.dst v) w → Q (.panic c) a w) (hC : C w.drew)
    (h : wpQuiet P l.toArray C (fun a' => ∀ w', C w' → wpList P l.toArray Q (l.drop n) a' w') (l.take n) a) : (Code.region id l.toArray true).wp P Q a w := by
  simp only [lexTailP, Bool.and_eq_true, decide_eq_true_eq] at hB
  obtain ⟨⟨⟨⟨hsel, hn⟩, hs⟩, hc⟩, hlex⟩ := hB
  have hln : (l.take n).length = n := by have : n < l.length := by simpa using hn
                                         simp; omega
  have inv : HeadInv .any l.toArray n (Array.replicate l.toArray.size false) :=
    ⟨by simp, fun j oj _ hj => (by rw [getD_replicate_false] at hj; exact absurd hj (by decide)), fun t _ ht => getD_in (by simpa using ht) (getD_replicate_false _ _)⟩
  have H := Heads.walk (md := .any) (p := p) (g := l.toArray.size - n) hsel hs hc hn (l.take n) 0 _ a (fun j hj => by
    have hj' : j < n := by rwa [hln] at hj
    simp [hj']) (by simpa using hln) inv (by rwa [hln]) h
  have hd : (l.drop n).length = l.toArray.size - n := by simp
  refine wp_region_any hm ?_
  have := Heads.any (Q := Q) (g := l.toArray.size - n) hsel (fun o ho => hpure o (by simpa using ho)) (fun o ho => hQ o (by simpa using ho)) (fun s a' w' hw' hL => by
    have k := wpAny_of_seq (md := .any) (Q' := Q) (l.drop n) n s a' w' (fun j => by simp [List.getElem?_drop]) (by rw [hd]; exact hL.1) (hL.2 w' hw')
    rwa [hd] at k) _ _ _ _ hC H
  rw [hln, show l.toArray.size - n + n = l.toArray.size by omega] at this
  exact this
/-- .. over all worlds in which nothing that existed has changed. -/
theorem wp_region_below_tail {id : Nat} {Q : Exit → Act → World → Prop} {a : Act} {w0 w : World} {l : List Oper} (n p : Nat) (hm : P.follows .mixedOrders = true) (hB : lexTailP l.toArray n p = true) (hpure : ∀ o, l[p]? = some o → PureOp P o)
    (hQ : ∀ o, l[p]? = some o → ∀ c a v w, Q (.panic c) (a.put o.dst v) w → Q (.panic c) a w) (hw : Below w0.heap.size w0 w)
    (h : wpQuiet P l.toArray (fun w' => ∃ p : BelowBy w0, w' = p.W) (fun a' => ∀ p : BelowBy w0, wpList P l.toArray Q (l.drop n) a' p.W) (l.take n) a) : (Code.region id l.toArray true).wp P Q a w :=
  wp_region_quiet_tail (C := fun w' => ∃ p : BelowBy w0, w' = p.W) n p hm hB hpure hQ ⟨⟨_, Below.drew hw⟩, rfl⟩ (by
    have e : (fun a' => ∀ w', (∃ p : BelowBy w0, w' = p.W) → wpList P l.toArray Q (l.drop n) a' w') = fun a' => ∀ p : BelowBy w0, wpList P l.toArray Q (l.drop n) a' p.W := by
      funext a'; exact propext ⟨fun h p => h _ ⟨p, rfl⟩, fun h w' ⟨p, e⟩ => e ▸ h p⟩
    rw [e]; exact h)
end
theorem pure_none {P : Program} {l : List Oper} {p : Nat} (h : l[p]? = none) : ∀ o, l[p]? = some o → PureOp P o := fun o ho => by rw [h] at ho; exact absurd ho (by simp)
/-- A choice by a Bool. -/
theorem pure_pick {P : Program} {o : Oper} {c x y : Operand} (h : o.op = .pick c x y) : PureOp P o := by
  intro a C w v hq w2
  revert hq
  simp only [execOp, h]
  generalize a.eval c = q
  cases q <;> simp [asBool, Oper.quietUpon, go_sem] <;> (intro h; exact h)
end Go.Proofs.Ytebdldinlodgpaa
