/-
  Layer 8 (inbox): what Effective does with its lists: deletions and the sort at lists of the call's own, the loop's state. Conditions: the lists are not too long.
-/
import Derived.Test.YtebdldinlodgpaaPrIs
import Derived.Test.YtebdldinlodgpaaPrIt
namespace Go.Proofs.Ytebdldinlodgpaa.Ib
open Go Go.RowKit Go.Lib Go.Sort Go.Shelf Go.Maps Go.Proofs Go.Proofs.Ytebdldinlodgpaa Go.Proofs.Ytebdldinlodgpaa.Tp Go.Proofs.Ytebdldinlodgpaa.Gm Go.Proofs.Ytebdldinlodgpaa.Rc Go.Proofs.Ytebdldinlodgpaa.SS
set_option linter.unusedVariables false

/-- Nothing, or a row of stamps of the call's own. -/
def OwnPS (l : List St) (B : Nat) (a : Option Addr) (cap : Nat) (w' : World) : Prop := (a = none ∧ l = [] ∧ cap = 0) ∨ ∃ g, a = some ⟨g, 0, none⟩ ∧ RowC w' g l.toArray ∧ B ≤ g ∧ g < w'.heap.size ∧ l.length ≤ cap
def DelE (L : List Ev) (a : Option Addr) (B : Nat) (W : World) (e : Ending) (w' : World) : Prop := ∃ cap', e = .returned (.slice a L.length cap') ∧ Lst w' a L.length cap' L ∧ Below B W w'
theorem filter_em (L : List Ev) (emp : Int) : (L.filter fun c => !decide (c.em ≠ emp)) = L.filter fun e => decide (e.em = emp) := by
  apply List.filter_congr
  intro x _
  by_cases h : x.em = emp <;> simp [h]
theorem del_emp (B : Nat) (W : World) (a : Option Addr) (cap : Nat) (L : List Ev) (hO : (a = none ∧ L = [] ∧ cap = 0) ∨ ∃ g, a = some ⟨g, 0, none⟩ ∧ SE.RowC W g L.toArray ∧ B ≤ g ∧ g < W.heap.size ∧ L.length ≤ cap) (hB : B ≤ W.heap.size) (hL : L.length ≤ 100000) (eb : Nat) (emp : Int) (he : W.cell? ⟨eb, 0, none⟩ = some (.int .i64 emp)) (heb : eb < B) :
    Calls Try.prog 65 #[.slice a L.length cap, .func (.func 66) #[] #[.pointer (some ⟨eb, 0, none⟩)]] W (DelE (L.filter fun e => decide (e.em = emp)) a B W) := by
  rcases hO with ⟨rfl, rfl, rfl⟩ | ⟨g, rfl, hr, h1, h2, h3⟩
  · refine (SE.del_none _ _).mono ?_
    rintro e w' ⟨rfl, rfl⟩
    exact ⟨0, rfl, ⟨⟨rfl, fun h => absurd h (by simp)⟩, fun _ => ⟨rfl, rfl⟩, by simp⟩, Below.refl _ _⟩
  · have C := SE.del_own 66 #[.pointer (some ⟨eb, 0, none⟩)] (fun c => decide (c.em ≠ emp)) g cap L.toArray W hr h2 (by simp; omega) (by simpa using h3)
      ⟨enters_of Try.func66 (by kernel_rfl) rfl, fun c V hV => cl_emp eb emp c V ((World.cell?_of_block (hV.block eb (by omega) (by omega))).trans he)⟩
    rw [show L.toArray.toList = L from rfl, filter_em, show L.toArray.size = L.length by simp] at C
    refine C.mono ?_
    rintro e w' ⟨rfl, hr', ho⟩
    refine ⟨cap, rfl, ⟨hr'.row (Nat.lt_of_lt_of_le h2 ho.size), fun h => (by cases h), ?_⟩, ho.below h1 hB⟩
    have := List.length_filter_le (fun e : Ev => decide (e.em = emp)) L
    omega
def DelS (L : List St) (a : Option Addr) (B : Nat) (W : World) (e : Ending) (w' : World) : Prop := ∃ cap', e = .returned (.slice a L.length cap') ∧ OwnPS L B a cap' w' ∧ Below B W w'
theorem del_pl (B : Nat) (W : World) (a : Option Addr) (cap : Nat) (L : List St) (hO : OwnPS L B a cap W) (hB : B ≤ W.heap.size) (hL : L.length ≤ 100000) (pb b m : Nat) (g : Int → Int → Option Int) (hp : W.cell? ⟨pb, 0, none⟩ = some (.map (some b))) (hm : MapK W b m g)
    (hn : ∀ gs, a = some ⟨gs, 0, none⟩ → gs ≠ pb ∧ gs ≠ b) (hw : ∀ s ∈ L, W64 s.kt ∧ W64 s.ks) :
    Calls Try.prog 68 #[.slice a L.length cap, .func (.func 69) #[] #[.pointer (some ⟨pb, 0, none⟩)]] W (DelS (L.filter fun s => (g s.kt s.ks).isSome) a B W) := by
  rcases hO with ⟨rfl, rfl, rfl⟩ | ⟨gs, rfl, hr, h1, h2, h3⟩
  · refine (SS.del_none _ _).mono ?_
    rintro e w' ⟨rfl, rfl⟩
    exact ⟨0, rfl, .inl ⟨rfl, rfl, rfl⟩, Below.refl _ _⟩
  · obtain ⟨n1, n2⟩ := hn gs rfl
    have C := SS.del_own 69 #[.pointer (some ⟨pb, 0, none⟩)] (fun s => !(g s.kt s.ks).isSome) gs cap L.toArray W hr h2 (by simp; omega) (by simpa using h3) (fun s => W64 s.kt ∧ W64 s.ks) (fun i hi => hw _ (by rw [getElem!_pos _ i hi]; simp))
      ⟨enters_of Try.func69 (by kernel_rfl) rfl, fun c V hd hV => cl_pl pb b m g c V ((World.cell?_of_block (hV.block pb (World.block_lt_of_cell? W _ hp) (fun e => n1 e.symm))).trans hp) (hm.block (hV.block b hm.lt (fun e => n2 e.symm))) hd.1 hd.2⟩
    rw [show L.toArray.toList = L from rfl, show L.toArray.size = L.length by simp] at C
    simp only [Bool.not_not] at C
    refine C.mono ?_
    rintro e w' ⟨rfl, hr', ho⟩
    refine ⟨cap, rfl, .inr ⟨gs, rfl, hr', h1, Nat.lt_of_lt_of_le h2 ho.size, ?_⟩, ho.below h1 hB⟩
    exact Nat.le_trans (List.length_filter_le _ L) h3
theorem apart_len {l : List St} (h : Apart l) : (setL cmpS l).length = l.length := by
  have e : ascL cmpS l = setL cmpS l := by
    have ha : Apart (ascL cmpS l) := ((List.mergeSort_perm l _).symm.pairwise_iff (fun {a b} h e => h ⟨e.1.symm, e.2.symm⟩)).1 h
    refine setL_unique totS _ _ ?_ fun x => mem_ascL l x
    refine List.Pairwise.imp₂ (fun {a b} (k : ¬ cmpS b a < 0) (k2 : ¬ (a.kt = b.kt ∧ a.ks = b.ks)) => ?_) (ascL_pair totS l) ha
    rcases totS.tri a b with k3 | k3 | k3
    · exact k3
    · subst k3; exact absurd ⟨rfl, rfl⟩ k2
    · exact absurd k3 k
  rw [← e, ascL_length]
def SortS (L : List St) (a : Option Addr) (cap B : Nat) (W : World) (e : Ending) (w' : World) : Prop := e = .returned (.tuple #[]) ∧ OwnPS (setL cmpS L) B a cap w' ∧ Below B W w'
theorem sort_own (B : Nat) (W : World) (a : Option Addr) (cap : Nat) (L : List St) (hO : OwnPS L B a cap W) (hB : B ≤ W.heap.size) (hL : L.length ≤ 100000) (ha : Apart L) :
    Calls Try.prog 70 #[.slice a L.length cap, .func (.func 71) #[] #[]] W (SortS L a cap B W) := by
  rcases hO with ⟨rfl, rfl, rfl⟩ | ⟨gs, rfl, hr, h1, h2, h3⟩
  · refine (sort_st_none _ _ _ _).mono ?_
    rintro e w' ⟨rfl, rfl⟩
    exact ⟨rfl, .inl ⟨rfl, by simp [setL, ascL, comp], rfl⟩, Below.refl _ _⟩
  · have C := sort_st gs cap L.toArray W hr h2 (by simp; omega) ha
    rw [show L.toArray.toList = L from rfl, show L.toArray.size = L.length by simp] at C
    refine C.mono ?_
    rintro e w' ⟨rfl, hr', ho⟩
    exact ⟨rfl, .inr ⟨gs, rfl, hr', h1, Nat.lt_of_lt_of_le h2 ho.size, by rw [apart_len ha]; exact h3⟩, ho.below h1 hB⟩
/-! ## The loop's state -/
theorem fl_set1 : ∀ (l : List St) (p : Nat) (x : Int), p < l.length → (fl l).set (p * 4) (.int .i64 x) = fl (l.set p ⟨x, l[p]!.ki, l[p]!.kt, l[p]!.ks⟩)
  | [], p, c, h => by simp at h
  | y :: l, 0, c, _ => by simp [fl, encC]
  | y :: l, p + 1, c, h => by
    have := fl_set1 l p c (by simpa using h)
    rw [List.set_cons_succ, List.getElem!_cons_succ]
    show (encC y ++ fl l).set ((p + 1) * 4) _ = encC y ++ fl (l.set p ⟨c, l[p]!.ki, l[p]!.kt, l[p]!.ks⟩)
    have hl : (encC y).length = 4 := rfl
    rw [← this, List.set_append_right _ _ (by omega), hl, show (p + 1) * 4 - 4 = p * 4 by omega]
structure LpI (w5 : World) (A : Option Addr) (N cc b pb : Nat) (own : List Ev) (k : Nat) (ss : List St) (m : Nat) (g : Int → Int → Option Int) (W : World) : Prop where
  ow : OwnL 70 4 encC w5 (.slice A N cc) ss W
  len : ss.length = N
  mp : MapK W b m g
  ef : EffI own (recL own) k ss g
  pc : W.cell? ⟨pb, 0, none⟩ = some (.map (some b))
  pn : (Value.slice A N cc).ownBlock ≠ some pb
  hb : w5.heap.size ≤ b
  hp : w5.heap.size ≤ pb
section
variable {w5 W W' : World} {A : Option Addr} {N cc b pb k m : Nat} {own : List Ev} {ss : List St} {g : Int → Int → Option Int}
theorem LpI.more (h : LpI w5 A N cc b pb own k ss m g W) (hb : Below W.heap.size W W') : LpI w5 A N cc b pb own k ss m g W' :=
  ⟨OwnL.more h.ow hb, h.len, h.mp.block (hb.block b h.mp.lt), h.ef, (hb.cell (World.block_lt_of_cell? W _ h.pc)).trans h.pc, h.pn, h.hb, h.hp⟩
theorem LpI.alloc (h : LpI w5 A N cc b pb own k ss m g W) (o : Obj) : LpI w5 A N cc b pb own k ss m g (W.alloc o) := h.more ((Below.refl _ _).alloc (Nat.le_refl _) o)
theorem LpI.skip (h : LpI w5 A N cc b pb own k ss m g W) (hk : k < own.length) (hc : g own[k]!.tt own[k]!.ts = none ∨ (own[k]!.ki ≠ 5 ∧ own[k]!.ki ≠ 6)) : LpI w5 A N cc b pb own (k + 1) ss m g W :=
  ⟨h.ow, h.len, h.mp, h.ef.skip hk hc, h.pc, h.pn, h.hb, h.hp⟩
theorem LpI.ne (h : LpI w5 A N cc b pb own k ss m g W) : b ≠ pb := by
  intro e
  obtain ⟨D, ⟨es, clock, hb, _⟩, _⟩ := h.mp
  have := h.pc
  unfold World.cell? at this
  simp only [← e, hb] at this
  cases this
theorem LpI.cancel (h : LpI w5 A N cc b pb own k ss m g W) (hk : k < own.length) (hc : own[k]!.ki = 5) (hm : MapK W' b m (putF g own[k]!.tt own[k]!.ts none)) (hg : W.grownBy W' (some b)) : LpI w5 A N cc b pb own (k + 1) ss m (putF g own[k]!.tt own[k]!.ts none) W' :=
  ⟨rec_put h.ow h.mp h.hb hg, h.len, hm, h.ef.cancel hk hc, (World.cell?_of_block (hg.block pb (World.block_lt_of_cell? W _ h.pc) (fun e => h.ne (by injection e with e; exact e.symm)))).trans h.pc, h.pn, h.hb, h.hp⟩
theorem LpI.correct (h : LpI w5 A N cc b pb own k ss m g W) (hk : k < own.length) (hc : own[k]!.ki = 6) {i gs : Nat} (hi : i < (recL own).length) (hgi : g own[k]!.tt own[k]!.ts = some (i : Int)) (hA : A = some ⟨gs, 0, none⟩) :
    LpI w5 A N cc b pb own (k + 1) (ss.set i ⟨own[k]!.ti, ss[i]!.ki, ss[i]!.kt, ss[i]!.ks⟩) m g (W.setCell ⟨gs, i * 4, none⟩ (.int .i64 own[k]!.ti)) := by
  subst hA
  have hl : i < ss.length := by rw [h.ef.len]; exact hi
  have hr := h.ow.row
  have s := World.ownsRow.stored (by rw [h.len] at hr; exact hr) (i * 4) (.int .i64 own[k]!.ti)
  have e1 : (ss.flatMap encC).set (i * 4) (.int .i64 own[k]!.ti) = (ss.set i ⟨own[k]!.ti, ss[i]!.ki, ss[i]!.kt, ss[i]!.ks⟩).flatMap encC := fl_set1 ss i _ hl
  have hbg : b ≠ gs := fun e => own_ne h.ow.row h.mp (by rw [e]; rfl)
  have hpg : pb ≠ gs := fun e => h.pn (by rw [e]; rfl)
  have hgl := (h.ow.row.lt gs rfl)
  refine ⟨⟨?_, h.ow.below.setCell hgl.1 _⟩, by rw [List.length_set]; exact h.len, h.mp.block (Below.heap_setCell _ _ _ _ hbg), h.ef.correct hk hc hi hgi, ?_, h.pn, h.hb, h.hp⟩
  · rw [List.length_set, h.len, ← e1]
    exact s.1
  · exact (World.cell?_of_block (Below.heap_setCell _ _ _ _ hpg)).trans h.pc
/-- The stamp that is corrected: its cell. -/
theorem LpI.cell (h : LpI w5 A N cc b pb own k ss m g W) {i : Nat} (hi : i < (recL own).length) : ∃ gs, A = some ⟨gs, 0, none⟩ ∧ (∃ x, W.cell? ⟨gs, i * 4, none⟩ = some (.int .i64 x)) ∧ W.frozen? ⟨gs, i * 4, none⟩ = false ∧ i < N := by
  have hl : i < ss.length := by rw [h.ef.len]; exact hi
  have hln := h.len
  rcases OwnL.form h.ow with ⟨e, rfl⟩ | ⟨gs, cap, e, _⟩
  · simp at hl
  · injection e with e1 e2 e3
    subst e1 e3
    have hr := h.ow.row
    refine ⟨gs, rfl, ⟨ss[i]!.ti, ?_⟩, ?_, by omega⟩
    · have := hr.cells (g := gs) rfl (i * 4) _ (fl_at ss i hl).1
      rwa [add_z] at this
    · rw [h.len] at hr
      exact hr.frozenAt (i * 4)
end
end Go.Proofs.Ytebdldinlodgpaa.Ib
