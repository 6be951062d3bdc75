/-
  Layer 6 (timeline): what the reference's Merge and in lean on: a box beside a row that grows. No condition.
-/
import Derived.Test.YtdpgmjmmnjbbiaaPrUw
import Derived.Test.YtdpgmjmmnjbbiaaPrUv
namespace Go.Proofs.Ytdpgmjmmnjbbiaa.Tl
open Go Go.RowKit Go.Lib Go.Sort Go.Shelf Go.Proofs Go.Proofs.Ytdpgmjmmnjbbiaa Go.Proofs.Ytdpgmjmmnjbbiaa.Tp
set_option linter.unusedVariables false

theorem eqC_iff (x y : Chg) : eqC x y = true ↔ x = y := by
  obtain ⟨a, b, c, d⟩ := x
  obtain ⟨a', b', c', d'⟩ := y
  simp [eqC]
/-- A box of one change, and nothing behind it. -/
structure Bz (W : World) (s : Nat) (c : Chg) : Prop where
  bx : Bx W s c
  no : W.cell? ⟨s, 4, none⟩ = none
theorem Bz.keep {W W' : World} {s : Nat} {c : Chg} (h : Bz W s c) (hb : W'.heap[s]? = W.heap[s]?) : Bz W' s c := ⟨h.bx.keep hb, (World.cell?_of_block (a := ⟨s, 4, none⟩) hb).trans h.no⟩
theorem Bz.below {W W' : World} {s : Nat} {c : Chg} (h : Bz W s c) (hb : Below W.heap.size W W') : Bz W' s c := h.keep (hb.block s h.bx.lt)
theorem Bz.new (W : World) (c : Chg) (t : TypeId) : Bz (W.alloc (.cells #[.int .i64 c.fr, .int .i64 c.kn, .int .i64 c.va, .bool c.de] t)) W.heap.size c := ⟨Bx.new W c t, by simp⟩
/-- The store of a change into its box. -/
theorem Bz.put {W : World} {s : Nat} {c : Chg} (h : Bz W s c) (f k v : Int) (d : Bool) : Bz ((((W.setCell ⟨s, 0, none⟩ (.int .i64 f)).setCell ⟨s, 1, none⟩ (.int .i64 k)).setCell ⟨s, 2, none⟩ (.int .i64 v)).setCell ⟨s, 3, none⟩ (.bool d)) s ⟨f, k, v, d⟩ :=
  ⟨(((h.bx.fr f).kn k).va v).de d, by rw [oth _ _ _ _ _ (by decide), oth _ _ _ _ _ (by decide), oth _ _ _ _ _ (by decide), oth _ _ _ _ _ (by decide)]; exact h.no⟩
/-- What a row of one's own looks like. -/
theorem OwnG.form {w0 W : World} {v : Value} {l : List Chg} (h : OwnG w0 v l W) : ∃ A cap, v = .slice A l.length cap ∧ ∀ p, p < l.length → ∃ g, A = some ⟨g, 0, none⟩ := by
  rcases h.row.2 with ⟨rfl, h0⟩ | ⟨g, cap, cur, rfl, _⟩
  · exact ⟨none, 0, by rw [h0], fun p hp => by omega⟩
  · exact ⟨_, cap, rfl, fun p _ => ⟨g, rfl⟩⟩
/-- A base that tells the grown row from a box. -/
theorem OwnG.base {w0 W : World} {A : Option Addr} {n cap s : Nat} {l : List Chg} (h : OwnG w0 (.slice A n cap) l W) (hn : l.length = n) (hz : l = [] → (Value.slice A n cap) = .slice none 0 0) (hs : s < W.heap.size) :
    ∃ bs, W.ownsRow bs 42 4 (.slice A n cap) n (fl l) ∧ w0.heap.size ≤ bs ∧ bs ≤ W.heap.size ∧ (n = 0 → s < bs) := by
  have hr := h.row
  rw [hn] at hr
  by_cases h0 : n = 0
  · have e : l = [] := List.length_eq_zero_iff.1 (by omega)
    have hb := h.below.size
    refine ⟨W.heap.size, ?_, hb, Nat.le_refl _, fun _ => hs⟩
    rw [hz e, e, h0]
    exact World.ownsRow_nil _ _ _ _
  · exact ⟨w0.heap.size, hr, Nat.le_refl _, h.below.size, fun e => absurd e h0⟩
theorem own_weak {W : World} {b b' n : Nat} {v : Value} {xs : List Value} (h : W.ownsRow b 42 4 v n xs) (hb : b' ≤ b) : W.ownsRow b' 42 4 v n xs := by
  refine ⟨h.1, ?_⟩
  rcases h.2 with h0 | ⟨g, cap, cur, e, h1, h2⟩
  · exact .inl h0
  · exact .inr ⟨g, cap, cur, e, by omega, h2⟩
/-- Behind the append: the row, in a block that is not the box's. -/
theorem app_done {w0 W W4 : World} {A : Option Addr} {n cap s bs : Nat} {l : List Chg} {z c : Chg} {v2 : Value} (h : OwnG w0 (.slice A n cap) l W) (hn : l.length = n) (hb : w0.heap.size ≤ bs) (h0 : n = 0 → s < bs) (hx : Bz W s c) (hne : (Value.slice A n cap).ownBlock ≠ some s)
    (o2 : W4.ownsRow bs 42 4 v2 (n + 1) (fl l ++ fl [z])) (g2 : W.grownBy W4 (Value.slice A n cap).ownBlock) :
    OwnG w0 v2 (l ++ [z]) W4 ∧ Bz W4 s c ∧ ∃ A4 g4 cap4, v2 = .slice A4 (n + 1) cap4 ∧ A4 = some ⟨g4, 0, none⟩ ∧ n + 1 ≤ cap4 ∧ cap4 ≤ maxLen ∧ g4 ≠ s ∧ w0.heap.size ≤ g4 := by
  have hz : Bz W4 s c := hx.keep (g2.block s hx.bx.lt (fun e => hne e.symm))
  refine ⟨OwnG.grown (m := [z]) h (by rw [hn]; exact own_weak o2 hb) g2, hz, ?_⟩
  rcases o2.2 with ⟨_, e⟩ | ⟨g, cap', cur, rfl, h1, h2, h3, h4, h5, h6⟩
  · omega
  · refine ⟨_, g, cap', rfl, rfl, h3, h4, fun e => ?_, by omega⟩
    subst e
    rcases Nat.eq_zero_or_pos n with e0 | e0
    · have := h0 e0; omega
    · have c4 := o2.cellAt 4 (by omega)
      rw [hz.no] at c4
      have hlen := o2.1
      have : 4 < (fl l ++ fl [z]).length := by omega
      rw [List.getElem?_eq_getElem this] at c4
      cases c4
theorem step_room_a {P : Program} {w : World} {ops : Array Oper} {o : Oper} {a : Act} {K : Act → World → Prop} {Q : Exit → Act → World → Prop} {E : Prop} (hgd : o.guard = none) (d s : Operand) (dT sT : TypeId)
    (ho : o.op = .call { callee := .builtin .copy, args := #[d, s], argTypes := #[dT, sT] }) (elem : TypeId) (hu : P.underlying dT = some (.slice elem)) (hsz : (P.info? elem).map (·.size) = some 4)
    (W0 : World) (A : Option Addr) (g : Nat) (hA : A = some ⟨g, 0, none⟩) (n cap p : Nat) (out : List Chg) (z : Chg) (hG : OwnG W0 (.slice A (n + 1) cap) (out ++ [z]) w) (hn : out.length = n) (hp : p ≤ n)
    (dL dC sL sC : Nat) (hd : a.eval d = .slice (from' A cap (p + 1)) dL dC) (hs : a.eval s = .slice (from' A cap p) sL sC) (hL1 : dL = n - p) (hL2 : sL = n + 1 - p)
    (h : ∀ w', OwnG W0 (.slice (some ⟨g, 0, none⟩) (n + 1) cap) (room out z p) w' → Only g w w' → K (a.put o.dst (goInt (Nat.min sL dL))) w') :
    if Region.wanted o (yielded ops a.tmps) = true then Oper.wp P o a w K Q else E := by
  subst hA
  exact step_room hgd d s dT sT ho elem hu hsz W0 g n cap p out z hG hn hp dL dC sL sC hd hs hL1 hL2 h
theorem infoS4 : (Try.prog.info? 42).map (·.size) = some 4 := by
  obtain ⟨i0, hi, _, hz, _⟩ := info4
  rw [hi, ← hz]; rfl
theorem ins_ne (l : List Chg) (p : Nat) (c : Chg) : ins l p c ≠ [] := by unfold ins; simp
end Go.Proofs.Ytdpgmjmmnjbbiaa.Tl
