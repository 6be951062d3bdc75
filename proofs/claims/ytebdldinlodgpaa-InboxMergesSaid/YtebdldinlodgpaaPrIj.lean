/-
  Layer 8 (inbox): the first and the last example of the chapter (sane): what they come to. No condition.
-/
import Derived.Test.YtebdldinlodgpaaPrIf
import Derived.Test.YtebdldinlodgpaaPrIz
namespace Go.Proofs.Ytebdldinlodgpaa.Ib
open Go Go.RowKit Go.Lib Go.Sort Go.Shelf Go.Proofs Go.Proofs.Ytebdldinlodgpaa Go.Proofs.Ytebdldinlodgpaa.Tp Go.Proofs.Ytebdldinlodgpaa.Gm Go.Proofs.Ytebdldinlodgpaa.Rc Go.Proofs.Ytebdldinlodgpaa.SE
set_option linter.unusedVariables false
def evI : Ev := ⟨1, 5, 1, 480, 1, 0, 0⟩
def evA : Ev := ⟨1, 6, 1, 470, 6, 1, 5⟩
def evB : Ev := ⟨2, 1, 1, 475, 6, 1, 5⟩
def evO : Ev := ⟨1, 5, 1, 481, 1, 0, 0⟩
theorem set4 : setL cmpE [evB, evA, evI, evO] = [evI, evO, evA, evB] := (setL_unique totE _ _ (by decide) (fun x => by
  simp only [List.mem_cons, List.not_mem_nil, or_false]
  constructor
  · rintro (h | h | h | h) <;> simp [h]
  · rintro (h | h | h | h) <;> simp [h])).symm
theorem set2 : setL cmpE [evO, evI] = [evI, evO] := (setL_unique totE _ _ (by decide) (fun x => by
  simp only [List.mem_cons, List.not_mem_nil, or_false]
  constructor
  · rintro (h | h) <;> simp [h]
  · rintro (h | h) <;> simp [h])).symm
theorem set3 : setL cmpE ([evB, evI] ++ [evI]) = [evI, evB] := (setL_unique totE _ _ (by decide) (fun x => by
  simp only [List.cons_append, List.nil_append, List.mem_cons, List.not_mem_nil, or_false]
  constructor
  · rintro (h | h) <;> simp [h]
  · rintro (h | h | h) <;> simp [h])).symm
theorem eff_ex0 : effE [evB, evA, evI, evO] = 0 := by decide
theorem eff_ex : effF [evB, evA, evI, evO] 1 = [⟨475, 1, 1, 5⟩] := by
  unfold effF
  rw [if_pos eff_ex0]
  unfold effL ownL cntL
  rw [set4]
  have h : effU ((comp eqKE [evI, evO, evA, evB]).filter fun e => decide (e.em = 1)) = [⟨475, 1, 1, 5⟩] := by decide
  rw [h]
  exact (setL_unique totS _ _ (by simp) (fun x => Iff.rfl)).symm
theorem con_ex0 : effE [evO, evI] = 0 := by decide
theorem con_ex : conF [evO, evI] = [⟨1, 5⟩] := by
  unfold conF
  rw [if_pos con_ex0]
  unfold conL
  rw [set2]
  decide
theorem mrg_ex0 : mrgE [evB, evI] [evI] = 0 := by
  unfold mrgE
  rw [set3]
  decide
theorem mrg_ex : mrgL [evB, evI] [evI] = [evI, evB] := by
  unfold mrgL
  rw [if_pos mrg_ex0, set3]
theorem cmp_ex : cmpE evI evO = -1 := by decide
/-- A list that is written out. -/
theorem lst_lit (w : World) (cs : List Ev) (n : Nat) (hn : cs.length = n) (hb : n ≤ 100000) (t : TypeId) : Lst (w.alloc (.cells (fl cs).toArray t)) (some ⟨w.heap.size, 0, none⟩) n n cs := by
  refine ⟨⟨hn, fun h => ⟨_, rfl, by simp, fun i hi => ?_⟩⟩, fun h => (by cases h), by omega⟩
  obtain ⟨b0, b1, b2, b3, b4, b5, b6⟩ := fl_at cs i (by omega)
  have c : ∀ j u, (fl cs)[j]? = some u → (w.alloc (.cells (fl cs).toArray t)).cell? ⟨w.heap.size, j, none⟩ = some u := fun j u hj => by
    rw [World.cell?_alloc_at _ _ _ _ rfl]
    simpa using hj
  rw [add_z]
  exact ⟨c _ _ b0, c _ _ b1, c _ _ b2, c _ _ b3, c _ _ b4, c _ _ b5, c _ _ b6⟩
end Go.Proofs.Ytebdldinlodgpaa.Ib
