/-
  Layer 7 (records): both Encodes in one form; bytes as a string. No condition.
-/
import Derived.Test.YtebdldinlodgpaaPrKs
import Derived.Test.YtebdldinlodgpaaPrJr
import Derived.Test.YtebdldinlodgpaaPrJg
import Derived.Test.YtebdldinlodgpaaPrQb
import Derived.Laws.BytesArg
namespace Go.Proofs.Ytebdldinlodgpaa.Rc
open Go Go.RowKit Go.Lib Go.Sort Go.Shelf Go.Proofs Go.Proofs.Ytebdldinlodgpaa Go.Proofs.Ytebdldinlodgpaa.Tp
set_option linter.unusedVariables false

def outB (e : Ev) : List Nat := if okE e then frame e else []
def outC (e : Ev) : Int := if okE e then 0 else 1
/-- What either Encode gives. -/
def EncU (e : Ev) (w : World) (r : Ending) (w' : World) : Prop := ∃ a cap, r = .returned (.tuple #[.slice a (outB e).length cap, .int .i64 (outC e)]) ∧ Below w.heap.size w w' ∧ BRow w' a (outB e).length (outB e) ∧ (a = none ∧ outB e = [] ∨ ∃ g, a = some ⟨g, 0, none⟩)
theorem outB_by (e : Ev) : By (outB e) := by
  unfold outB
  split
  · rename_i h; exact frame_by h
  · exact fun x hx => absurd hx List.not_mem_nil
theorem encU_ok {e : Ev} (h : okE e = true) {w : World} {r : Ending} {w' : World} (k : EncR e w r w') : EncU e w r w' := by
  obtain ⟨a, cap, rfl, h2⟩ := k
  unfold EncU
  have e1 : outB e = frame e := by unfold outB; rw [h]; rfl
  have e2 : outC e = 0 := by unfold outC; rw [h]; rfl
  rw [e1, e2, frame_len]
  have hb := (OwnB.brow h2 (frame_by h)).1
  refine ⟨a, cap, rfl, OwnL.below h2, hb, .inr ?_⟩
  rcases OwnL.form h2 with ⟨e3, _⟩ | ⟨g, c2, e3, _⟩
  · injection e3 with _ e4; exact absurd e4 (by decide)
  · injection e3 with e4; exact ⟨g, e4⟩
theorem encU_bad {e : Ev} (h : okE e = false) {w : World} {r : Ending} {w' : World} (k : EncE w r w') : EncU e w r w' := by
  obtain ⟨rfl, h2⟩ := k
  unfold EncU
  have e1 : outB e = [] := by unfold outB; rw [h]; rfl
  have e2 : outC e = 1 := by unfold outC; rw [h]; rfl
  rw [e1, e2]
  exact ⟨none, 0, rfl, h2, ⟨rfl, fun x hx => absurd hx List.not_mem_nil, fun h => absurd h (by decide)⟩, .inl ⟨rfl, rfl⟩⟩
theorem encU_any (e : Ev) (w : World) : Calls Try.prog 17 #[vE e] w (EncU e w) := by
  cases h : okE e
  · exact (enc_bad e h w).mono fun _ _ k => encU_bad h k
  · exact (enc_ok e h w).mono fun _ _ k => encU_ok h k
theorem rencU_any (e : Ev) (w : World) : Calls Try.prog 18 #[vE e] w (EncU e w) := by
  cases h : okE e
  · exact (renc_bad e h w).mono fun _ _ k => encU_bad h k
  · exact (renc_ok e h w).mono fun _ _ k => encU_ok h k
set_option maxRecDepth 100000 in
/-- string(bytes). -/
theorem conv_bytes {W : World} {a : Option Addr} {n cap : Nat} {bs : List Nat} (h : BRow W a n bs) (hf : a = none ∧ bs = [] ∨ ∃ g, a = some ⟨g, 0, none⟩) :
    (convert 27 9 (.slice a n cap)).run Try.prog W = .ok (.string (strOfNums (bs.map (fun x : Nat => (x : Int))))) W := by
  rcases hf with ⟨rfl, rfl⟩ | ⟨g, rfl⟩
  · exact run_convert_bytes_nil W 27 5 Try.underlying27 Try.underlying5 n cap 9 Try.underlying9
  · refine run_convert_bytes_arg W 27 5 Try.underlying27 Try.underlying5 g 0 n cap (bs.map (fun x : Nat => (x : Int))) (by rw [List.length_map, h.1]) (fun i hi => ?_) 9 Try.underlying9
    obtain ⟨x, hx, hc⟩ := h.2.2 (by omega)
    injection hx with hx
    subst hx
    have hl : i < bs.length := by rw [h.1]; exact hi
    have := hc i hi
    rw [Addr.add_lit] at this
    rw [this, getElem!_pos bs i hl]
    simp [List.getD, hl]
end Go.Proofs.Ytebdldinlodgpaa.Rc
