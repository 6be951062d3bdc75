/-
  Rows of Ky, as memory holds them. No condition.
-/
import Derived.Test.YtebdldinlodgpaaPrJq
import Derived.Test.YtebdldinlodgpaaPrGm
namespace Go.Proofs.Ytebdldinlodgpaa.SK
open Go Go.RowKit Go.Lib Go.Sort Go.Shelf Go.Proofs Go.Proofs.Ytebdldinlodgpaa Go.Proofs.Ytebdldinlodgpaa.Tp Go.Proofs.Ytebdldinlodgpaa.Gm Go.Proofs.Ytebdldinlodgpaa.Rc
set_option linter.unusedVariables false

/-- A key: its terminal, its number. -/
structure Ky where
  kt : Int
  ks : Int
  deriving DecidableEq, Inhabited

def vC (c : Ky) : Value := .agg #[.int .i64 c.kt, .int .i64 c.ks]
def encC (c : Ky) : List Value := [.int .i64 c.kt, .int .i64 c.ks]
theorem encC_one (c : Ky) : ∀ v ∈ encC c, v.oneCell' = true := by
  intro v hv
  simp only [encC, List.mem_cons, List.not_mem_nil, or_false] at hv
  rcases hv with rfl | rfl <;> rfl
/-- The cells from address p on hold an element. -/
def At4 (w : World) (p : Addr) (c : Ky) : Prop :=
  w.cell? p = some (.int .i64 c.kt) ∧ w.cell? ⟨p.block, p.off + 1, none⟩ = some (.int .i64 c.ks)
theorem At4.lt {w : World} {p : Addr} {c : Ky} (h : At4 w p c) : p.block < w.heap.size := World.block_lt_of_cell? w _ h.1
theorem At4.block {w w' : World} {p : Addr} {c : Ky} (h : At4 w p c) (hb : w'.heap[p.block]? = w.heap[p.block]?) : At4 w' p c :=
  ⟨(World.cell?_of_block hb).trans h.1, (World.cell?_of_block (a := ⟨p.block, p.off + 1, none⟩) hb).trans h.2⟩
/-- The slice's cells hold these changes; it lies below block B. -/
def ChgRow (w : World) (B : Nat) (a : Option Addr) (n : Nat) (cs : List Ky) : Prop :=
  cs.length = n ∧ (0 < n → ∃ x : Addr, a = some x ∧ x.block < B ∧ ∀ i, i < n → At4 w (x.add (i * 2)) cs[i]!)
theorem addB4 (x : Addr) (i : Nat) : (x.add i).block = x.block := by unfold Addr.add; split <;> rfl
theorem ChgRow.keep {w w' : World} {B : Nat} {a : Option Addr} {n : Nat} {cs : List Ky} (h : ChgRow w B a n cs) (hb : ∀ k, k < B → k < w.heap.size → (∃ x : Addr, a = some x ∧ x.block = k) → w'.heap[k]? = w.heap[k]?) : ChgRow w' B a n cs := by
  refine ⟨h.1, fun hn => ?_⟩
  obtain ⟨x, ha, hx, hc⟩ := h.2 hn
  exact ⟨x, ha, hx, fun i hi => (hc i hi).block (hb _ (by rw [addB4]; exact hx) (hc i hi).lt ⟨x, ha, (addB4 x _).symm⟩)⟩
theorem ChgRow.below {w w' : World} {B : Nat} {a : Option Addr} {n : Nat} {cs : List Ky} (h : ChgRow w B a n cs) (hb : Below B w w') : ChgRow w' B a n cs := h.keep fun k hk _ _ => hb.block k hk
theorem ChgRow.only {w w' : World} {B b : Nat} {a : Option Addr} {n : Nat} {cs : List Ky} (h : ChgRow w B a n cs) (ho : Only b w w') (hb : B ≤ b) : ChgRow w' B a n cs := h.keep fun k hk hs _ => ho.block k hs (by omega)
theorem ChgRow.only' {w w' : World} {B b : Nat} {a : Option Addr} {n : Nat} {cs : List Ky} (h : ChgRow w B a n cs) (ho : Only b w w') (hb : ∀ x, a = some x → x.block ≠ b) : ChgRow w' B a n cs :=
  h.keep fun k hk hs ⟨x, ha, hx⟩ => ho.block k hs (fun e => hb x ha (hx.trans e))
theorem ChgRow.mono {w : World} {B B' : Nat} {a : Option Addr} {n : Nat} {cs : List Ky} (h : ChgRow w B a n cs) (hB : B ≤ B') : ChgRow w B' a n cs := by
  refine ⟨h.1, fun hn => ?_⟩
  obtain ⟨x, ha, hx, hc⟩ := h.2 hn
  exact ⟨x, ha, Nat.lt_of_lt_of_le hx hB, hc⟩

/-- A row of changes in a block of the call's own, from its beginning on. -/
structure RowC (w : World) (g : Nat) (d : Array Ky) : Prop where
  cell : ∀ i, i < d.size → At4 w ⟨g, i * 2, none⟩ d[i]!
  free : ∀ j, j < d.size * 2 → w.frozen? ⟨g, j, none⟩ = false
theorem RowC.keep {w w' : World} {g : Nat} {d : Array Ky} (h : RowC w g d) (hb : w'.heap[g]? = w.heap[g]?) : RowC w' g d :=
  ⟨fun i hi => (h.cell i hi).block hb, fun j hj => (World.frozen?_of_block (a := ⟨g, j, none⟩) hb).trans (h.free j hj)⟩
theorem RowC.below {w w' : World} {g B : Nat} {d : Array Ky} (h : RowC w g d) (hb : Below B w w') (hB : g < B) : RowC w' g d := h.keep (hb.block g hB)
theorem RowC.only {w w' : World} {g b : Nat} {d : Array Ky} (h : RowC w g d) (ho : Only b w w') (hg : g < w.heap.size) (hb : g ≠ b) : RowC w' g d := h.keep (ho.block g hg hb)
theorem RowC.row {w : World} {g B : Nat} {d : Array Ky} (h : RowC w g d) (hB : g < B) : ChgRow w B (some ⟨g, 0, none⟩) d.size d.toList := by
  refine ⟨by simp, fun hn => ⟨_, rfl, hB, fun i hi => ?_⟩⟩
  have e : (⟨g, 0, none⟩ : Addr).add (i * 2) = ⟨g, i * 2, none⟩ := by rw [Addr.add_lit, Nat.zero_add]
  rw [e, show d.toList[i]! = d[i]! by rw [getElem!_pos d.toList i (by simpa using hi), getElem!_pos d i hi]; simp]
  exact h.cell i hi
theorem RowC.take {w : World} {g : Nat} {d e : Array Ky} (h : RowC w g d) (he : e.size ≤ d.size) (hd : ∀ i, i < e.size → d[i]! = e[i]!) : RowC w g e :=
  ⟨fun i hi => by rw [← hd i hi]; exact h.cell i (by omega), fun j hj => h.free j (by omega)⟩
theorem RowC.holds {w : World} {g : Nat} {d : Array Ky} (h : RowC w g d) : HoldsK encC 2 w g 0 d := by
  intro t ht
  rw [size_flatK] at ht
  rw [get_flatK _ _ _ _ ht, Nat.zero_add]
  have hq : t / 2 < d.size := by omega
  obtain ⟨c0, c1⟩ := h.cell _ hq
  refine ⟨?_, h.free t ht⟩
  have e : t = t / 2 * 2 + t % 2 := by omega
  have hm : t % 2 < 2 := by omega
  generalize t % 2 = r at *
  generalize t / 2 = q at *
  subst e
  show w.cell? _ = some (encC d[q]!)[r]!
  rcases r with _ | _ | r
  · exact c0
  · exact c1
  · omega
theorem RowC.of_holds {w : World} {g : Nat} {d : Array Ky} (h : HoldsK encC 2 w g 0 d) : RowC w g d := by
  refine ⟨fun i hi => ?_, fun j hj => ?_⟩
  · have k0 := (HoldsK.cell h (i := i) (c := 0) hi (by omega)).1
    have k1 := (HoldsK.cell h (i := i) (c := 1) hi (by omega)).1
    simp only [Nat.zero_add, Nat.add_zero] at k0 k1
    exact ⟨k0, k1⟩
  · have := (h j (by rw [size_flatK]; exact hj)).2
    rwa [Nat.zero_add] at this
/-- The stores of an element of the row. -/
theorem RowC.set {w : World} {g k : Nat} {d : Array Ky} (h : RowC w g d) (hk : k < d.size) (c : Ky) :
    RowC ((w.setCell ⟨g, k * 2, none⟩ (.int .i64 c.kt)).setCell ⟨g, k * 2 + 1, none⟩ (.int .i64 c.ks)) g (d.setIfInBounds k c) := by
  obtain ⟨a0, a1⟩ := h.cell k hk
  have o : ∀ (W : World) (i j : Nat) (v : Value), i ≠ j → (W.setCell ⟨g, i, none⟩ v).cell? ⟨g, j, none⟩ = W.cell? ⟨g, j, none⟩ := fun W i j v hij => World.cell?_setCell_other _ _ _ _ (fun e => hij (by injection e))
  refine ⟨fun i hi => ?_, fun j hj => ?_⟩
  · have hi' : i < d.size := by simpa using hi
    by_cases e : i = k
    · subst e
      rw [show (d.setIfInBounds i c)[i]! = c by simp [hi']]
      refine ⟨?_, ?_⟩
      · rw [o _ _ _ _ (by omega)]
        exact World.cell?_setCell_same _ _ _ a0
      · show World.cell? _ ⟨g, i * 2 + 1, none⟩ = _
        exact World.cell?_setCell_same _ _ _ (by rw [o _ _ _ _ (by omega)]; exact a1)
    · have hx : (d.setIfInBounds k c)[i]! = d[i]! := by
        rw [getElem!_pos (d.setIfInBounds k c) i hi, getElem!_pos d i hi', Array.getElem_setIfInBounds_ne (h := fun h => e h.symm)]
      rw [hx]
      obtain ⟨b0, b1⟩ := h.cell i hi'
      refine ⟨?_, ?_⟩
      · rw [o _ _ _ _ (by omega), o _ _ _ _ (by omega)]; exact b0
      · show World.cell? _ ⟨g, i * 2 + 1, none⟩ = _
        rw [o _ _ _ _ (by omega), o _ _ _ _ (by omega)]; exact b1
  · rw [World.frozen?_setCell, World.frozen?_setCell]
    exact h.free j (by simpa using hj)
/-! ## The cells of a list -/
def fl (l : List Ky) : List Value := l.flatMap encC
theorem fl_len : ∀ l : List Ky, (fl l).length = l.length * 2
  | [] => rfl
  | c :: r => by
    have := fl_len r
    unfold fl at *
    rw [List.flatMap_cons, List.length_append, this]
    simp [encC]; omega
theorem fl_one (l : List Ky) : ∀ u ∈ fl l, u.oneCell' = true := by
  intro u hu
  obtain ⟨c, _, hc⟩ := List.mem_flatMap.1 hu
  exact encC_one c u hc
theorem fl_app (l m : List Ky) : fl (l ++ m) = fl l ++ fl m := List.flatMap_append
theorem fl_at : ∀ (l : List Ky) (i : Nat), i < l.length → (fl l)[i * 2]? = some (.int .i64 l[i]!.kt) ∧ (fl l)[i * 2 + 1]? = some (.int .i64 l[i]!.ks)
  | [], i, h => by simp at h
  | x :: l, 0, _ => by simp [fl, encC]
  | x :: l, i + 1, h => by
    have := fl_at l i (by simpa using h)
    rw [show (i + 1) * 2 = i * 2 + 2 by omega]
    simpa [fl, encC] using this
theorem add_z (g m : Nat) : (⟨g, 0, none⟩ : Addr).add m = ⟨g, m, none⟩ := by rw [Addr.add_lit, Nat.zero_add]
/-- Cells that a list gives, at an address: the elements. -/
theorem cells_row {w : World} {x : Addr} {cs : List Ky} {n : Nat} (hl : cs.length = n) (h : ∀ i, i < n → At4 w (x.add (i * 2)) cs[i]!) : ∀ j u, (fl cs)[j]? = some u → w.cell? (x.add j) = some u := by
  intro j u hj
  have hlt : j < (fl cs).length := (List.getElem?_eq_some_iff.1 hj).1
  rw [fl_len] at hlt
  have hi : j / 2 < n := by omega
  obtain ⟨a0, a1⟩ := h _ hi
  obtain ⟨b0, b1⟩ := fl_at cs (j / 2) (by omega)
  have e : j = j / 2 * 2 + j % 2 := by omega
  have hm : j % 2 < 2 := by omega
  have ad : ∀ q r, 0 < r → x.add (q * 2 + r) = ⟨(x.add (q * 2)).block, (x.add (q * 2)).off + r, none⟩ := fun q r hr => by
    rw [← Addr.add_add]
    generalize x.add (q * 2) = y
    exact if_neg (by omega)
  generalize j % 2 = r at *
  generalize j / 2 = q at *
  subst e
  rcases r with _ | _ | r
  · rw [Nat.add_zero] at hj ⊢
    rw [b0] at hj; injection hj with hj; subst hj; exact a0
  · rw [ad q 1 (by omega)]
    rw [b1] at hj; injection hj with hj; subst hj; exact a1
  · omega
/-- A row that append has made, as a row of elements. -/
theorem own_row {w : World} {base g n cap : Nat} {cs : List Ky} (h : w.ownsRow base 24 2 (.slice (some ⟨g, 0, none⟩) n cap) n (fl cs)) (hl : cs.length = n) : RowC w g cs.toArray ∧ base ≤ g ∧ g < w.heap.size ∧ n ≤ cap := by
  rcases h.2 with ⟨e, _⟩ | ⟨g', cap', cur, e, hb, hg, hnc, _⟩
  · cases e
  · injection e with e1 e2 e3
    injection e1 with e1
    injection e1 with e1 _ _
    subst e1; subst e3
    refine ⟨⟨fun i hi => ?_, fun j hj => h.frozenAt j⟩, hb, (Array.getElem?_eq_some_iff.1 hg).1, hnc⟩
    have hi' : i < cs.length := by simpa using hi
    obtain ⟨b0, b1⟩ := fl_at cs i hi'
    have c := h.cells (g := g) rfl
    have c0 := c _ _ b0
    have c1 := c _ _ b1
    rw [add_z] at c0 c1
    rw [show cs.toArray[i]! = cs[i]! by rw [getElem!_pos cs.toArray i hi, getElem!_pos cs i hi']; simp]
    exact ⟨c0, c1⟩
end Go.Proofs.Ytebdldinlodgpaa.SK
