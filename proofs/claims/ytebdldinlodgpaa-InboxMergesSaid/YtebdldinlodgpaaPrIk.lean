/-
  Layer 8 (inbox): maps from keys (two integers) to integers, as a function on pairs; the laws of look-ups, stores and deletions at the walk. Condition: the key's fields are of 64 bits.
-/
import Derived.Test.YtebdldinlodgpaaPrLeaf
import Derived.Maps.OwnSet
import Derived.Maps.OwnOps
import Derived.DeepKeys4
namespace Go.Proofs.Ytebdldinlodgpaa.Ib
open Go Go.RowKit Go.Lib Go.Maps Go.Proofs Go.Proofs.Ytebdldinlodgpaa
set_option linter.unusedVariables false

theorem laidKeys : laidOutB Try.prog = true := by kernel_rfl
theorem lawKey : Keyed Try.prog 24 := Keyed.of_law (deep_law_laid laidKeys (m := 3) (by omega) (of_decide_eq_true (by kernel_rfl)) (by kernel_rfl) (by kernel_rfl))
theorem zeroInt (w : World) : (zeroValue 3).run Try.prog w = .ok (.int .i64 0) w := by kernel_rfl
/-- The integer is of 64 bits. -/
def W64 (x : Int) : Prop := (Lit.int .i64 x).wf = true
def klK (t s : Int) : Lit := .string (keyBytes [.int .i64 t, .int .i64 s])
theorem keyOf_duo {P : Program} {k e : TypeId} {fs : Array Field} {f0 f1 : Field} (hu : P.underlying k = some (.struct fs)) (hf : fs = #[f0, f1]) (hn : fs.all (·.name != "_") = true) (h0 : f0.type = e ∧ f0.offset = 0) (h1 : f1.type = e ∧ f1.offset = 1) (he : P.underlying e = some (.int .i64))
    (hkt : P.keyType k = true) (hc : P.cellsOf k = 2) (hi : P.cellsOf e = 1) (hsz : ∃ m, P.types.size = m + 1) {t s : Int} (ht : (Lit.int .i64 t).wf = true) (hs : (Lit.int .i64 s).wf = true) :
    keyOf P k (.agg #[.int .i64 t, .int .i64 s]) = some (klK t s) := by
  obtain ⟨m, hm⟩ := hsz
  subst hf
  unfold keyOf
  simp only [hu]
  rw [if_pos (by simp [hkt, Value.formed, hu, hc]), hm]
  unfold Program.keyLits
  simp only [hu, Value.cells]
  rw [if_pos ⟨by rw [hc]; rfl, hn⟩]
  simp [h0, h1, hi, Program.keyLits, he, ht, hs, klK]
set_option maxRecDepth 100000 in
theorem keyK {t s : Int} (ht : W64 t) (hs : W64 s) : keyOf Try.prog 24 (.agg #[.int .i64 t, .int .i64 s]) = some (klK t s) :=
  keyOf_duo Try.underlying24 rfl (by kernel_rfl) ⟨rfl, rfl⟩ ⟨rfl, rfl⟩ Try.underlying3 (by kernel_rfl) (by kernel_rfl) (by kernel_rfl) ⟨Try.prog.types.size - 1, by kernel_rfl⟩ ht hs
theorem klK_inj {t s t' s' : Int} (ht : W64 t) (hs : W64 s) (ht' : W64 t') (hs' : W64 s') (h : klK t s = klK t' s') : t = t' ∧ s = s' := by
  have := lawKey.inj (keyK ht hs) (h ▸ keyK ht' hs')
  simpa using this
/-- A function on keys, turned at one key. -/
def putF (f : Int → Int → Option Int) (t s : Int) (v : Option Int) : Int → Int → Option Int := fun a b => if a = t ∧ b = s then v else f a b
/-- Block b is a map of at most n keys that holds, at keys of 64 bits, what f says. -/
def MapK (w : World) (b n : Nat) (f : Int → Int → Option Int) : Prop :=
  ∃ D : DataW Unit, w.ownsMap Try.prog 24 (plainElem Try.prog 3) b n D ∧ ∀ t s, W64 t → W64 s → Maps.has D (klK t s) = (f t s).isSome ∧ ∀ v, f t s = some v → D.atKey (klK t s) (.lit (.int .i64 0)) = .lit (.int .i64 v)
theorem MapK.made (w : World) : MapK (w.alloc (.map #[] 0)) w.heap.size 0 (fun _ _ => none) :=
  ⟨_, World.ownsMap_made _ _ _ _, fun t s _ _ => ⟨rfl, fun v h => by cases h⟩⟩
theorem MapK.lt {w : World} {b n : Nat} {f : Int → Int → Option Int} (h : MapK w b n f) : b < w.heap.size := let ⟨_, h, _⟩ := h; h.lt
theorem MapK.kept {w w' : World} {row : Option Nat} {b n : Nat} {f : Int → Int → Option Int} (h : MapK w b n f) (hg : w.grownBy w' row) (hne : some b ≠ row) : MapK w' b n f := let ⟨D, h, r⟩ := h; ⟨D, h.kept hg hne, r⟩
theorem MapK.block {w w' : World} {b n : Nat} {f : Int → Int → Option Int} (h : MapK w b n f) (hb : w'.heap[b]? = w.heap[b]?) : MapK w' b n f := by
  obtain ⟨D, ⟨es, clock, h1, h2⟩, r⟩ := h
  exact ⟨D, ⟨es, clock, hb.trans h1, h2⟩, r⟩
theorem MapK.mono {w : World} {b n m : Nat} {f : Int → Int → Option Int} (h : MapK w b n f) (hn : n ≤ m) : MapK w b m f := let ⟨D, h, r⟩ := h; ⟨D, h.mono hn, r⟩
section
variable {w : World} {b n : Nat} {f : Int → Int → Option Int} {t s : Int}
theorem isK (ht : W64 t) (hs : W64 s) : WideAt.IsKeyLit (klK t s) := lawKey.key (keyK ht hs)
theorem putD (D : DataW Unit) (hm : Maps.IsMap D) (hf : ∀ t s, W64 t → W64 s → Maps.has D (klK t s) = (f t s).isSome ∧ ∀ v, f t s = some v → D.atKey (klK t s) (.lit (.int .i64 0)) = .lit (.int .i64 v)) (ht : W64 t) (hs : W64 s) (x : Int) :
    ∀ t' s', W64 t' → W64 s' → Maps.has (D.put (klK t s) (.lit (.int .i64 x))) (klK t' s') = (putF f t s (some x) t' s').isSome ∧ ∀ v, putF f t s (some x) t' s' = some v → (D.put (klK t s) (.lit (.int .i64 x))).atKey (klK t' s') (.lit (.int .i64 0)) = .lit (.int .i64 v) := by
  intro t' s' ht' hs'
  unfold putF
  by_cases e : t' = t ∧ s' = s
  · obtain ⟨rfl, rfl⟩ := e
    rw [if_pos ⟨rfl, rfl⟩, Maps.has_put_same hm (isK ht hs)]
    refine ⟨rfl, fun v hv => ?_⟩
    injection hv with hv
    subst hv
    exact Maps.atKey_put_same hm (isK ht hs) _ _
  · have hne : klK t' s' ≠ klK t s := fun h => e (klK_inj ht' hs' ht hs h)
    rw [if_neg e, Maps.has_put_other hne, Maps.atKey_put_other hne]
    exact hf t' s' ht' hs'
theorem delD (D : DataW Unit) (hf : ∀ t s, W64 t → W64 s → Maps.has D (klK t s) = (f t s).isSome ∧ ∀ v, f t s = some v → D.atKey (klK t s) (.lit (.int .i64 0)) = .lit (.int .i64 v)) (ht : W64 t) (hs : W64 s) :
    ∀ t' s', W64 t' → W64 s' → Maps.has (D.del (klK t s)) (klK t' s') = (putF f t s none t' s').isSome ∧ ∀ v, putF f t s none t' s' = some v → (D.del (klK t s)).atKey (klK t' s') (.lit (.int .i64 0)) = .lit (.int .i64 v) := by
  intro t' s' ht' hs'
  unfold putF
  by_cases e : t' = t ∧ s' = s
  · obtain ⟨rfl, rfl⟩ := e
    rw [if_pos ⟨rfl, rfl⟩, Maps.has_del_same]
    exact ⟨rfl, fun v hv => by cases hv⟩
  · have hne : klK t' s' ≠ klK t s := fun h => e (klK_inj ht' hs' ht hs h)
    rw [if_neg e, Maps.has_del_other hne, Maps.atKey_del_other hne]
    exact hf t' s' ht' hs'
variable {ops : Array Oper} {rest : List Oper} {o : Oper} {a : Act} {Q : Exit → Act → World → Prop}
/-- 'i, ok := m[k]'. -/
theorem wpList_lookK (hg : o.guard = none) (m x : Operand) (hop : o.op = Op.lookup 94 m x true) (hm : a.eval m = .map (some b)) (hown : MapK w b n f) (hx : a.eval x = .agg #[.int .i64 t, .int .i64 s]) (ht : W64 t) (hs : W64 s)
    (hK : ∀ c : Int, (∀ v, f t s = some v → c = v) → W64 c → wpList Try.prog ops Q rest (a.put o.dst (.tuple #[.int .i64 c, .bool (f t s).isSome])) w) : wpList Try.prog ops Q (o :: rest) a w := by
  obtain ⟨D, hD, hf⟩ := hown
  refine wpList_lookup_own_ok_int w hg m x 94 hop 24 3 .i64 lawKey Try.underlying94 Try.underlying3 (zeroInt w) b n D hm hD _ (klK t s) hx (keyK ht hs) ?_
  intro c hat hwc
  rw [(hf t s ht hs).1]
  refine hK c (fun v hv => ?_) hwc
  have := (hf t s ht hs).2 v hv
  rw [hat] at this
  injection this with h
  injection h
/-- 'm[k] = v'. -/
theorem wpList_putK (hg : o.guard = none) (m x v : Operand) (hop : o.op = Op.mapUpdate 94 m x v) (hm : a.eval m = .map (some b)) (hown : MapK w b n f) (hn : n < maxLen) (c : Int) (hx : a.eval x = .agg #[.int .i64 t, .int .i64 s]) (hv : a.eval v = .int .i64 c) (ht : W64 t) (hs : W64 s) (hc : W64 c)
    (hK : ∀ w', MapK w' b (n + 1) (putF f t s (some c)) → w.grownBy w' (some b) → wpList Try.prog ops Q rest (a.put o.dst undef) w') : wpList Try.prog ops Q (o :: rest) a w := by
  obtain ⟨D, hD, hf⟩ := hown
  refine wpList_mapUpdate_own w hg m x v 94 hop 24 3 lawKey Try.underlying94 _ b n D hm hD hn _ _ (klK t s) hx hv (keyK ht hs) _ [] (plainElem_int Try.underlying3 hc) ?_
  intro w' h1 h2
  exact hK w' ⟨_, h1, putD D hD.isMap hf ht hs c⟩ h2
/-- 'delete(m, k)'. -/
theorem wpList_delK (hg : o.guard = none) (m x : Operand) (hop : o.op = Op.call { callee := Callee.builtin Builtin.delete, args := #[m, x], argTypes := #[94, 24] }) (hm : a.eval m = .map (some b)) (hown : MapK w b n f) (hx : a.eval x = .agg #[.int .i64 t, .int .i64 s]) (ht : W64 t) (hs : W64 s)
    (hK : ∀ w', MapK w' b n (putF f t s none) → w.grownBy w' (some b) → wpList Try.prog ops Q rest (a.put o.dst (.tuple #[])) w') : wpList Try.prog ops Q (o :: rest) a w := by
  obtain ⟨D, hD, hf⟩ := hown
  refine wpList_delete_own w hg m x 94 24 hop 3 lawKey Try.underlying94 _ b n D hm hD _ (klK t s) hx (keyK ht hs) ?_
  intro w' h1 h2
  exact hK w' ⟨_, h1, delD D hf ht hs⟩ h2.grown
end
end Go.Proofs.Ytebdldinlodgpaa.Ib
