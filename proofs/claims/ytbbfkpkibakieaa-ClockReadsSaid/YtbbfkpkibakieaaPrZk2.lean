/-
  What a law over a drawn zone carries from call to call: the zone's box, its changes, the tape. No condition of its own.
-/
import Derived.Test.YtbbfkpkibakieaaPrLawLen
namespace Go.Proofs.Ytbbfkpkibakieaa
open Go Go.RowKit Go.Lib Go.Proofs.Ytbbfkpkibakieaa.Tp

theorem ChRow.only' {w w' : World} {b B : Nat} {a : Option Addr} {n : Nat} {cs : List (Int × Int)} (h : ChRow w B a n cs) (hO : Only b w w') (hne : ∀ y, a = some y → b < y.block) : ChRow w' B a n cs := by
  refine ⟨h.1, fun hn => ?_⟩
  obtain ⟨x, ha, hx, hc⟩ := h.2 hn
  have hb := hne x ha
  exact ⟨x, ha, hx, fun i hi => ⟨hO.cell (hc i hi).1 (by rw [addB]; omega), hO.cell (hc i hi).2 (by show (x.add (i * 2)).block ≠ b; rw [addB]; omega)⟩⟩
structure ZK (w0 : World) (b zb : Nat) (off : Int) (a : Option Addr) (n cap : Nat) (cs : List (Int × Int)) (w : World) : Prop where
  box : ZBox w zb off a n cap
  row : ChRow w w.heap.size a n cs
  ne : ∀ y, a = some y → b < y.block
  tape : TapeAt b w
  only : Only b w0 w
  lt : b < zb
theorem ZK.below {w0 w w' : World} {b zb : Nat} {off : Int} {a : Option Addr} {n cap : Nat} {cs : List (Int × Int)} (h : ZK w0 b zb off a n cap cs w) (hb : Below w.heap.size w w') : ZK w0 b zb off a n cap cs w' :=
  ⟨h.box.below hb, row_more h.row hb, h.ne, h.tape.below hb, h.only.trans (Only.of_below hb), h.lt⟩
theorem ZK.step {w0 w w' : World} {b zb : Nat} {off : Int} {a : Option Addr} {n cap : Nat} {cs : List (Int × Int)} (h : ZK w0 b zb off a n cap cs w) (hT : TapeAt b w') (hO : Only b w w') : ZK w0 b zb off a n cap cs w' :=
  ⟨h.box.only hO (by have := h.lt; omega), (h.row.only' hO h.ne).mono hO.size, h.ne, hT, h.only.trans hO, h.lt⟩
theorem ZK.alloc {w0 w : World} {b zb : Nat} {off : Int} {a : Option Addr} {n cap : Nat} {cs : List (Int × Int)} (h : ZK w0 b zb off a n cap cs w) (o : Obj) : ZK w0 b zb off a n cap cs (w.alloc o) :=
  h.below ((Below.refl _ _).alloc (Nat.le_refl _) _)
theorem ZK.new {w0 w : World} {b : Nat} {off : Int} {a : Option Addr} {n cap : Nat} {cs : List (Int × Int)} (hr : ChRow w w.heap.size a n cs) (hne : ∀ y, a = some y → b < y.block) (hT : TapeAt b w) (hO : Only b w0 w) : ZK w0 b w.heap.size off a n cap cs (w.alloc (.cells #[.int .i64 off, .slice a n cap] 24)) :=
  ⟨ZBox.new w off a n cap, row_box hr _, hne, hT.alloc _, hO.alloc _, hT.lt⟩
theorem ZK.fin {w w' : World} {b zb : Nat} {off : Int} {a : Option Addr} {n cap : Nat} {cs : List (Int × Int)} (h : ZK w b zb off a n cap cs w') (hb : w.heap.size ≤ b) : Below w.heap.size w w' := h.only.below hb (Nat.le_refl _)

theorem vAE_ok {off : Int} {cs : List (Int × Int)} {t : Int} (h : vE off cs = 0) (h0 : 0 ≤ t) (h1 : t ≤ 120968639) : vAE off cs t = 0 := by unfold vAE; rw [if_pos h, if_neg (by omega)]
theorem lV_ok {off : Int} {cs : List (Int × Int)} {t : Int} (h : vE off cs = 0) (h0 : 0 ≤ t) (h1 : t ≤ 120968639) : lV off cs t = t + offV t (spL off cs) := by unfold lV; rw [if_pos (vAE_ok h h0 h1)]
/-- First, where an instant shows the minute or a later one. -/
theorem fV_spec {off : Int} {cs : List (Int × Int)} (l : Int) (h : vE off cs = 0) :
    (fV l (spL off cs) < END → 0 ≤ fV l (spL off cs) ∧ l ≤ fV l (spL off cs) + offV (fV l (spL off cs)) (spL off cs)) ∧ (¬ fV l (spL off cs) < END → fV l (spL off cs) = END) ∧
    (∀ t, 0 ≤ t → t < END → t < fV l (spL off cs) → t + offV t (spL off cs) < l) := fF_spec l _ END END (desc_spL off cs h) (Int.le_refl _)
theorem first_law {off : Int} {cs : List (Int × Int)} (l : Int) (h : vE off cs = 0) (l0 : 841 ≤ l) (l1 : l ≤ 120967000) :
    ∃ x, f1V off cs l = x ∧ 1 ≤ x ∧ x ≤ 120968639 ∧ l ≤ lV off cs x ∧ ∀ t, 0 ≤ t → t < x → lV off cs t < l := by
  obtain ⟨a1, a2, a3⟩ := fV_spec l h
  have e : f1V off cs l = fV l (spL off cs) := by
    unfold f1V; rw [if_pos h]; unfold nearT; rw [if_neg (by omega), if_neg (by omega)]
  refine ⟨_, e, ?_⟩
  have hb := offV_bd (desc_spL off cs h)
  generalize fV l (spL off cs) = x at *
  unfold END at a1 a2 a3
  have hx : x < 120968640 := by
    rcases (by omega : x < 120968640 ∨ 120968640 ≤ x) with c | c
    · exact c
    · have := a3 (l + 840) (by omega) (by omega) (by have := a2 (by omega); omega)
      have := hb (l + 840)
      omega
  obtain ⟨b1, b2⟩ := a1 hx
  have hbx := hb x
  refine ⟨by omega, by omega, by rw [lV_ok h b1 (by omega)]; exact b2, fun t t0 t1 => ?_⟩
  rw [lV_ok h t0 (by omega)]
  exact a3 t t0 (by omega) t1
end Go.Proofs.Ytbbfkpkibakieaa
