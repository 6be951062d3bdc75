/-
  Layer 7 (records): a box of an event's seven cells. No condition.
-/
import Derived.Test.YtebdldinlodgpaaPrJc
import Derived.Deep.MidRow
namespace Go.Proofs.Ytebdldinlodgpaa.Rc
open Go Go.RowKit Go.Lib Go.Sort Go.Shelf Go.Proofs Go.Proofs.Ytebdldinlodgpaa Go.Proofs.Ytebdldinlodgpaa.Tp
set_option linter.unusedVariables false

theorem below_al {w0 W : World} (h : Below w0.heap.size w0 W) (o : Obj) : Below w0.heap.size w0 (W.alloc o) := h.alloc h.size o
theorem below_set {w0 W : World} {q : Nat} (h : Below w0.heap.size w0 W) (hq : w0.heap.size ≤ q) (i : Nat) (v : Value) : Below w0.heap.size w0 (W.setCell ⟨q, i, none⟩ v) := h.setCell (p := ⟨q, i, none⟩) hq v
def zE : Ev := ⟨0, 0, 0, 0, 0, 0, 0⟩
/-- What event gives. -/
def EvV (o : Option Ev) : Value := match o with
  | some e => .tuple #[vE e, .bool true]
  | none => .tuple #[vE zE, .bool false]
/-- A box of an event's seven cells. -/
structure BxE (W : World) (p : Nat) (e : Ev) : Prop where
  at7 : W.cell? ⟨p, 0, none⟩ = some (.int .i64 e.kt) ∧ W.cell? ⟨p, 1, none⟩ = some (.int .i64 e.ks) ∧ W.cell? ⟨p, 2, none⟩ = some (.int .i64 e.em) ∧ W.cell? ⟨p, 3, none⟩ = some (.int .i64 e.ti) ∧ W.cell? ⟨p, 4, none⟩ = some (.int .i64 e.ki) ∧ W.cell? ⟨p, 5, none⟩ = some (.int .i64 e.tt) ∧ W.cell? ⟨p, 6, none⟩ = some (.int .i64 e.ts)
  free : ∀ j, j < 7 → W.frozen? ⟨p, j, none⟩ = false
theorem BxE.lt {W : World} {p : Nat} {e : Ev} (h : BxE W p e) : p < W.heap.size := World.block_lt_of_cell? W _ h.at7.1
theorem BxE.keep {W W' : World} {p : Nat} {e : Ev} (h : BxE W p e) (hb : W'.heap[p]? = W.heap[p]?) : BxE W' p e := by
  obtain ⟨⟨a0, a1, a2, a3, a4, a5, a6⟩, hf⟩ := h
  exact ⟨⟨(World.cell?_of_block (a := ⟨p, 0, none⟩) hb).trans a0, (World.cell?_of_block (a := ⟨p, 1, none⟩) hb).trans a1, (World.cell?_of_block (a := ⟨p, 2, none⟩) hb).trans a2, (World.cell?_of_block (a := ⟨p, 3, none⟩) hb).trans a3, (World.cell?_of_block (a := ⟨p, 4, none⟩) hb).trans a4, (World.cell?_of_block (a := ⟨p, 5, none⟩) hb).trans a5, (World.cell?_of_block (a := ⟨p, 6, none⟩) hb).trans a6⟩, fun j hj => (World.frozen?_of_block (a := ⟨p, j, none⟩) hb).trans (hf j hj)⟩
theorem BxE.new (w : World) (e : Ev) (t : TypeId) : BxE (w.alloc (.cells #[.int .i64 e.kt, .int .i64 e.ks, .int .i64 e.em, .int .i64 e.ti, .int .i64 e.ki, .int .i64 e.tt, .int .i64 e.ts] t)) w.heap.size e :=
  ⟨⟨by go_simp, by go_simp, by go_simp, by go_simp, by go_simp, by go_simp, by go_simp⟩, fun j hj => World.frozen?_alloc_at _ _ _ _ rfl⟩
theorem oth (W : World) (s i j : Nat) (v : Value) (h : i ≠ j) : (W.setCell ⟨s, i, none⟩ v).cell? ⟨s, j, none⟩ = W.cell? ⟨s, j, none⟩ := World.cell?_setCell_other _ _ _ _ (fun e => h (by injection e))
/-- All seven cells written. -/
def put7 (W : World) (p : Nat) (e : Ev) : World := ((((((W.setCell ⟨p, 0, none⟩ (.int .i64 e.kt)).setCell ⟨p, 1, none⟩ (.int .i64 e.ks)).setCell ⟨p, 2, none⟩ (.int .i64 e.em)).setCell ⟨p, 3, none⟩ (.int .i64 e.ti)).setCell ⟨p, 4, none⟩ (.int .i64 e.ki)).setCell ⟨p, 5, none⟩ (.int .i64 e.tt)).setCell ⟨p, 6, none⟩ (.int .i64 e.ts)
theorem BxE.put {W : World} {p : Nat} {z : Ev} (h : BxE W p z) (e : Ev) : BxE (put7 W p e) p e := by
  obtain ⟨⟨a0, a1, a2, a3, a4, a5, a6⟩, hf⟩ := h
  unfold put7
  refine ⟨⟨?_, ?_, ?_, ?_, ?_, ?_, ?_⟩, fun j hj => ?_⟩
  · rw [oth _ _ 6 0 _ (by decide), oth _ _ 5 0 _ (by decide), oth _ _ 4 0 _ (by decide), oth _ _ 3 0 _ (by decide), oth _ _ 2 0 _ (by decide), oth _ _ 1 0 _ (by decide)]
    exact World.cell?_setCell_same _ _ _ a0
  · rw [oth _ _ 6 1 _ (by decide), oth _ _ 5 1 _ (by decide), oth _ _ 4 1 _ (by decide), oth _ _ 3 1 _ (by decide), oth _ _ 2 1 _ (by decide)]
    exact World.cell?_setCell_same _ _ _ (by rw [oth _ _ 0 1 _ (by decide)]; exact a1)
  · rw [oth _ _ 6 2 _ (by decide), oth _ _ 5 2 _ (by decide), oth _ _ 4 2 _ (by decide), oth _ _ 3 2 _ (by decide)]
    exact World.cell?_setCell_same _ _ _ (by rw [oth _ _ 1 2 _ (by decide), oth _ _ 0 2 _ (by decide)]; exact a2)
  · rw [oth _ _ 6 3 _ (by decide), oth _ _ 5 3 _ (by decide), oth _ _ 4 3 _ (by decide)]
    exact World.cell?_setCell_same _ _ _ (by rw [oth _ _ 2 3 _ (by decide), oth _ _ 1 3 _ (by decide), oth _ _ 0 3 _ (by decide)]; exact a3)
  · rw [oth _ _ 6 4 _ (by decide), oth _ _ 5 4 _ (by decide)]
    exact World.cell?_setCell_same _ _ _ (by rw [oth _ _ 3 4 _ (by decide), oth _ _ 2 4 _ (by decide), oth _ _ 1 4 _ (by decide), oth _ _ 0 4 _ (by decide)]; exact a4)
  · rw [oth _ _ 6 5 _ (by decide)]
    exact World.cell?_setCell_same _ _ _ (by rw [oth _ _ 4 5 _ (by decide), oth _ _ 3 5 _ (by decide), oth _ _ 2 5 _ (by decide), oth _ _ 1 5 _ (by decide), oth _ _ 0 5 _ (by decide)]; exact a5)
  · exact World.cell?_setCell_same _ _ _ (by rw [oth _ _ 5 6 _ (by decide), oth _ _ 4 6 _ (by decide), oth _ _ 3 6 _ (by decide), oth _ _ 2 6 _ (by decide), oth _ _ 1 6 _ (by decide), oth _ _ 0 6 _ (by decide)]; exact a6)
  · simp only [World.frozen?_setCell]; exact hf j hj
theorem put7_below {w0 W : World} {p : Nat} (h : Below w0.heap.size w0 W) (hp : w0.heap.size ≤ p) (e : Ev) : Below w0.heap.size w0 (put7 W p e) :=
  (((((((h.setCell (p := ⟨p, 0, none⟩) hp _).setCell (p := ⟨p, 1, none⟩) hp _).setCell (p := ⟨p, 2, none⟩) hp _).setCell (p := ⟨p, 3, none⟩) hp _).setCell (p := ⟨p, 4, none⟩) hp _).setCell (p := ⟨p, 5, none⟩) hp _).setCell (p := ⟨p, 6, none⟩) hp _)
theorem BxE.range {W : World} {p : Nat} {e : Ev} (h : BxE W p e) : W.rangeAt p 0 [.int .i64 e.kt, .int .i64 e.ks, .int .i64 e.em, .int .i64 e.ti, .int .i64 e.ki, .int .i64 e.tt, .int .i64 e.ts] := by
  obtain ⟨⟨a0, a1, a2, a3, a4, a5, a6⟩, _⟩ := h
  intro j v hv
  rw [Nat.zero_add]
  rcases j with _ | _ | _ | _ | _ | _ | _ | j
  · simp at hv; subst hv; exact a0
  · simp at hv; subst hv; exact a1
  · simp at hv; subst hv; exact a2
  · simp at hv; subst hv; exact a3
  · simp at hv; subst hv; exact a4
  · simp at hv; subst hv; exact a5
  · simp at hv; subst hv; exact a6
  · simp at hv
theorem infoE : (Try.prog.info? 26).map (·.size) = some 7 := by kernel_rfl
theorem undE : ∃ d, Try.prog.underlying 26 = some d ∧ d.isRow = true := by
  have h : (Try.prog.underlying 26).map TypeDesc.isRow = some true := by kernel_rfl
  cases hd : Try.prog.underlying 26 with
  | none => rw [hd] at h; cases h
  | some d => rw [hd] at h; simp at h; exact ⟨d, rfl, h⟩
theorem BxE.load {W : World} {p : Nat} {e : Ev} (h : BxE W p e) : (loadVar 26 ⟨p, 0, none⟩).run Try.prog W = .ok (vE e) W := by
  obtain ⟨d, hd, hr⟩ := undE
  exact run_loadVar_mid W p 0 _ _ d h.range hd hr infoE
theorem BxE.loadAt {W : World} {p : Nat} {e : Ev} (h : BxE W p e) : (Instr.loadAt 26 (.pointer (some ⟨p, 0, none⟩))).run Try.prog W = .ok (vE e) W := by
  obtain ⟨d, hd, hr⟩ := undE
  exact run_loadAt_mid W p 0 _ _ d h.range hd hr infoE
end Go.Proofs.Ytebdldinlodgpaa.Rc
