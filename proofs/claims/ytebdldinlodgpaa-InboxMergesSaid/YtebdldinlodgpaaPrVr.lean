/-
  Arguments that are an event, or bytes, hold an event, bytes. No condition.
-/
import Derived.Test.YtebdldinlodgpaaPrJq
import Derived.ProofKit
import Derived.SizedLaws
import Derived.OpenShut
import Derived.ShutString
import Derived.ChangeOld
import Derived.Lib.SmallJoins
import Derived.Deep.Slices
import Derived.ChangeArms
namespace Go.Proofs.Ytebdldinlodgpaa.Rc
open Go Go.RowKit Go.Lib Go.Proofs.Ytebdldinlodgpaa.Tp
set_option linter.unusedVariables false

theorem wf_u8 {n : Int} (h : (Lit.int .u8 n).wf = true) : 0 ≤ n ∧ n ≤ 255 := by
  simp [Lit.wf, IntKind.min, IntKind.max, IntKind.signed, IntKind.bits] at h; omega
theorem seven_of {α : Type} {l : List α} (h : l.length = 7) : ∃ a b c d e f g, l = [a, b, c, d, e, f, g] := by
  rcases l with _ | ⟨a, _ | ⟨b, _ | ⟨c, _ | ⟨d, _ | ⟨e, _ | ⟨f, _ | ⟨g, _ | ⟨x, l⟩⟩⟩⟩⟩⟩⟩⟩
  case cons.cons.cons.cons.cons.cons.cons.nil => exact ⟨a, b, c, d, e, f, g, rfl⟩
  all_goals simp at h
theorem two_of {α : Type} {l : List α} (h : l.length = 2) : ∃ a b, l = [a, b] := by
  rcases l with _ | ⟨a, _ | ⟨b, _ | ⟨x, l⟩⟩⟩
  case cons.cons.nil => exact ⟨a, b, rfl⟩
  all_goals simp at h
theorem cellsKey : Try.prog.cellsOf 24 = 2 := by kernel_rfl
theorem cellsInt : Try.prog.cellsOf 3 = 1 := by kernel_rfl
theorem cellsEv : Try.prog.cellsOf 26 = 7 := by kernel_rfl
/-- The numbers are int's. -/
def Fit (e : Ev) : Prop := ∀ x ∈ [e.kt, e.ks, e.em, e.ti, e.ki, e.tt, e.ts], -9223372036854775808 ≤ x ∧ x ≤ 9223372036854775807
section
variable {H : Type} {enc : TypeId × Value → H} {w : World} {base : Nat} {spare : Nat → Bool} {held : Bool}
set_option maxRecDepth 100000 in
theorem trod_key {fuel : Nat} {v0 v1 : Value} {x : DataW H × List MemPlace} (h : DataW.trod enc Try.prog w base spare held fuel 24 [v0, v1] = some x) :
    ∃ a b : Int, v0 = .int .i64 a ∧ v1 = .int .i64 b ∧ (-9223372036854775808 ≤ a ∧ a ≤ 9223372036854775807) ∧ (-9223372036854775808 ≤ b ∧ b ≤ 9223372036854775807) := by
  obtain ⟨ys, n, _, _, _, hyl, hg⟩ := DataW.trod_struct Try.underlying24 h
  have g0 := hg 0 _ rfl
  have g1 := hg 1 _ rfl
  obtain ⟨y0, y1, rfl⟩ := two_of hyl
  change DataW.trod enc Try.prog w base spare held n 3 (List.take (Try.prog.cellsOf 3) [v0, v1]) = some y0 at g0
  change DataW.trod enc Try.prog w base spare held n 3 (List.take (Try.prog.cellsOf 3) [v1]) = some y1 at g1
  rw [cellsInt] at g0 g1
  obtain ⟨a, e0, _, w0⟩ := DataW.trod_int Try.underlying3 g0
  obtain ⟨b, e1, _, w1⟩ := DataW.trod_int Try.underlying3 g1
  simp only [List.take_succ_cons, List.take_zero, List.cons.injEq, and_true] at e0 e1
  exact ⟨a, b, e0, e1, lit_bd w0, lit_bd w1⟩
set_option maxRecDepth 100000 in
theorem trod_ev {fuel : Nat} {cs : List Value} {x : DataW H × List MemPlace} (h : DataW.trod enc Try.prog w base spare held fuel 26 cs = some x) :
    ∃ e : Ev, cs = [.int .i64 e.kt, .int .i64 e.ks, .int .i64 e.em, .int .i64 e.ti, .int .i64 e.ki, .int .i64 e.tt, .int .i64 e.ts] ∧ Fit e := by
  obtain ⟨ys, n, _, _, hlen, hyl, hg⟩ := DataW.trod_struct Try.underlying26 h
  rw [cellsEv] at hlen
  obtain ⟨v0, v1, v2, v3, v4, v5, v6, rfl⟩ := seven_of hlen
  have g0 := hg 0 _ rfl
  have g1 := hg 1 _ rfl
  have g2 := hg 2 _ rfl
  have g3 := hg 3 _ rfl
  have g4 := hg 4 _ rfl
  obtain ⟨y0, y1, y2, y3, y4, rfl⟩ : ∃ y0 y1 y2 y3 y4, ys = [y0, y1, y2, y3, y4] := by
    rcases ys with _ | ⟨a, _ | ⟨b, _ | ⟨c, _ | ⟨d, _ | ⟨e, _ | ⟨x, l⟩⟩⟩⟩⟩⟩
    case cons.cons.cons.cons.cons.nil => exact ⟨a, b, c, d, e, rfl⟩
    all_goals simp at hyl
  change DataW.trod enc Try.prog w base spare held n 24 (List.take (Try.prog.cellsOf 24) [v0, v1, v2, v3, v4, v5, v6]) = some y0 at g0
  change DataW.trod enc Try.prog w base spare held n 3 (List.take (Try.prog.cellsOf 3) [v2, v3, v4, v5, v6]) = some y1 at g1
  change DataW.trod enc Try.prog w base spare held n 3 (List.take (Try.prog.cellsOf 3) [v3, v4, v5, v6]) = some y2 at g2
  change DataW.trod enc Try.prog w base spare held n 3 (List.take (Try.prog.cellsOf 3) [v4, v5, v6]) = some y3 at g3
  change DataW.trod enc Try.prog w base spare held n 24 (List.take (Try.prog.cellsOf 24) [v5, v6]) = some y4 at g4
  rw [cellsInt] at g1 g2 g3
  rw [cellsKey] at g0 g4
  obtain ⟨a0, a1, rfl, rfl, w0, w1⟩ := trod_key g0
  obtain ⟨a2, e2, _, w2⟩ := DataW.trod_int Try.underlying3 g1
  obtain ⟨a3, e3, _, w3⟩ := DataW.trod_int Try.underlying3 g2
  obtain ⟨a4, e4, _, w4⟩ := DataW.trod_int Try.underlying3 g3
  obtain ⟨a5, a6, rfl, rfl, w5, w6⟩ := trod_key g4
  simp only [List.take_succ_cons, List.take_zero, List.cons.injEq, and_true] at e2 e3 e4
  subst e2 e3 e4
  refine ⟨⟨a0, a1, a2, a3, a4, a5, a6⟩, rfl, ?_⟩
  intro x hx
  simp only [List.mem_cons, List.not_mem_nil, or_false] at hx
  rcases hx with rfl | rfl | rfl | rfl | rfl | rfl | rfl
  · exact w0
  · exact w1
  · exact lit_bd w2
  · exact lit_bd w3
  · exact lit_bd w4
  · exact w5
  · exact w6
open Go.ChangeShapes Go.WideShapes in
set_option maxRecDepth 100000 in
/-- An argument that is an event. -/
theorem open_ev {r : Reach} {b0 : Nat} {v : Value} {d : DataW H} {p : List MemPlace} (hv : Value.okWide Try.prog w r b0 26 v) (h : DataW.Trod enc Try.prog w base spare held 26 v d p) :
    ∃ e : Ev, v = vE e ∧ Fit e := by
  obtain ⟨cs, rfl, hsz⟩ := okWide_struct Try.underlying26 hv
  obtain ⟨fuel, hf⟩ := h
  obtain ⟨e, he, hF⟩ := trod_ev hf
  refine ⟨e, ?_, hF⟩
  obtain ⟨l⟩ := cs
  simp only [Value.cells] at he
  unfold vE
  rw [← he]
open Go.ChangeShapes Go.WideShapes in
set_option maxRecDepth 100000 in
/-- An argument that is a list of bytes. -/
theorem open_bytes {fuel : Nat} {cs : List Value} {x : DataW H × List MemPlace} (h : DataW.trod enc Try.prog w base spare held fuel 27 cs = some x) :
    ∃ (a : Option Addr) (n cap : Nat) (bs : List Nat), cs = [.slice a n cap] ∧ BRow w a n bs ∧ n ≤ cap ∧ cap ≤ maxLen ∧ (a = none → cap = 0) := by
  rcases open_ints Try.underlying27 Try.underlying5 (by kernel_rfl) h with ⟨rfl, _⟩ | ⟨a, n, cap, zs, rfl, _, hl, hm, hz, _, hcell, hwz⟩
  · exact ⟨none, 0, 0, [], rfl, ⟨rfl, fun x hx => absurd hx List.not_mem_nil, fun h => absurd h (Nat.lt_irrefl 0)⟩, Nat.le_refl _, by unfold maxLen; omega, fun _ => rfl⟩
  · have hnz : n ≤ zs.length := by rw [hz]; split <;> omega
    refine ⟨some a, n, cap, (zs.take n).map Int.toNat, rfl, ⟨by simp; omega, ?_, fun _ => ⟨a, rfl, fun i hi => ?_⟩⟩, hl, hm, fun h => by cases h⟩
    · intro x hx
      obtain ⟨z, hz2, rfl⟩ := List.mem_map.1 hx
      have := wf_u8 (hwz z (List.mem_of_mem_take hz2))
      omega
    · have hiz : i < zs.length := by omega
      rw [hcell i hiz]
      have e : zs.getD i 0 = zs[i] := by simp [List.getD, hiz]
      have hw := wf_u8 (hwz zs[i] (List.getElem_mem hiz))
      rw [e, getElem!_pos ((zs.take n).map Int.toNat) i (by simp; omega)]
      simp only [List.getElem_map, List.getElem_take]
      rw [show ((zs[i].toNat : Nat) : Int) = zs[i] by omega]
end
end Go.Proofs.Ytebdldinlodgpaa.Rc
