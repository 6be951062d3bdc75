/-
  An append of a row that may be nothing to a list of the call's own; a list of the call's own as what is appended; an empty literal. Conditions: the lengths fit.
-/
import Derived.Test.YtebdldinlodgpaaPrJq
import Derived.Laws.AppendOwnNone
namespace Go.Proofs.Ytebdldinlodgpaa.Rc
open Go Go.RowKit Go.Lib Go.Sort Go.Shelf Go.Proofs Go.Proofs.Ytebdldinlodgpaa Go.Proofs.Ytebdldinlodgpaa.Tp
set_option linter.unusedVariables false
/-- An append of a row that may be nothing to a row of one's own. -/
theorem wpList_append_opt {P : Program} (w : World) {ops : Array Oper} {rest : List Oper} {o : Oper} {a : Act} {Q : Exit → Act → World → Prop} (hgd : o.guard = none) (s x : Operand) (t : TypeId)
    (ho : o.op = .call { callee := .builtin .append, args := #[s, x], argTypes := #[t, t] })
    (base : Nat) (e : TypeId) (i : TypeInfo) (z : Value) (size bytes : Nat) (ht : P.underlying t = some (.slice e)) (hi : P.info? e = some i) (hz : i.zero = some z)
    (hsize : i.size = size) (hby : i.bytes = bytes) (hzs : z.cells.size = size) (hsz : 0 < size)
    (v : Value) (n : Nat) (xs : List Value) (hs : a.eval s = v) (hown : w.ownsRow base e size v n xs)
    (A : Option Addr) (m c : Nat) (news : List Value) (hx : a.eval x = .slice A m c) (hl : news.length = m * size) (h0 : A = none → m = 0 ∧ c = 0) (hnews : ∀ ad, A = some ad → ∀ j u, news[j]? = some u → w.cell? (ad.add j) = some u) (h1 : ∀ u ∈ news, u.oneCell' = true)
    (h63 : n + m ≤ maxLen) (hbytes : (n + m) * bytes ≤ 140737488355328) (hbase : base ≤ w.heap.size)
    (h : ∀ v' w', w'.ownsRow base e size v' (n + m) (xs ++ news) → w.grownBy w' v.ownBlock → (v' = .slice none 0 0 ↔ v = .slice none 0 0 ∧ m = 0) → wpList P ops Q rest (a.put o.dst v') w') : wpList P ops Q (o :: rest) a w := by
  rcases A with _ | ad
  · obtain ⟨rfl, rfl⟩ := h0 rfl
    obtain rfl : news = [] := List.length_eq_zero_iff.mp (by rw [hl]; omega)
    exact wpList_append_own_none hgd s x t ho base e i size ht hi v n xs hs hown hx (h v w (by simpa using hown) (World.grownBy.refl _ _) (by simp))
  · exact wpList_append_own w hgd s x t ho base e i z size bytes ht hi hz hsize hby hzs hsz v n xs hs hown ad m c news hx hl (hnews ad rfl) h1 h63 hbytes hbase h


section
variable {α : Type} {t : TypeId} {sz : Nat} {enc : α → List Value} {w0 W W' : World} {v v' : Value} {l m : List α}
/-- An empty literal. -/
theorem OwnL.lit0 (w : World) (t : TypeId) (sz : Nat) (enc : α → List Value) : OwnL t sz enc w (.slice (some ⟨w.heap.size, 0, none⟩) 0 0) [] (w.alloc (.cells #[] t)) :=
  ⟨⟨by simp, .inr ⟨w.heap.size, 0, _, rfl, Nat.le_refl _, heap_alloc_new w _, Nat.le_refl _, by unfold maxLen; omega, by simp, by simp⟩⟩, (Below.refl _ _).alloc (Nat.le_refl _) _⟩
/-- A list of the call's own, as what is appended elsewhere. -/
theorem OwnL.src (h : OwnL t sz enc w0 v l W) : ∃ A c, v = .slice A l.length c ∧ (A = none → l.length = 0 ∧ c = 0) ∧ ∀ ad, A = some ad → ad.block < W.heap.size ∧ ∀ W', Below W.heap.size W W' → ∀ j u, (l.flatMap enc)[j]? = some u → W'.cell? (ad.add j) = some u := by
  rcases OwnL.form h with ⟨rfl, rfl⟩ | ⟨g, cap, rfl, h1, h2, h3, h4⟩
  · exact ⟨none, 0, rfl, fun _ => ⟨rfl, rfl⟩, fun ad e => by cases e⟩
  · refine ⟨_, cap, rfl, fun e => (by cases e), fun ad e => ?_⟩
    injection e with e
    subst e
    refine ⟨h2, fun W' hb j u hj => ?_⟩
    exact (OwnL.more h hb).row.cells (g := g) rfl j u hj
end
/-- Bytes that came in, as what is appended. -/
theorem BRow.opt {w : World} {a : Option Addr} {n : Nat} {bs : List Nat} (h : BRow w a n bs) : (bs.flatMap eB).length = n * 1 ∧ ∀ ad, a = some ad → ∀ W', Below w.heap.size w W' → ∀ j u, (bs.flatMap eB)[j]? = some u → W'.cell? (ad.add j) = some u := by
  refine ⟨by rw [fB_len, h.1]; omega, fun ad e W' hb j u hj => ?_⟩
  have hl := (List.getElem?_eq_some_iff.1 hj).1
  rw [fB_len, h.1] at hl
  obtain ⟨x, hx, hc⟩ := (h.more hb).2.2 (by omega)
  rw [e] at hx
  injection hx with hx
  subst hx
  have := fB_get bs j (by rw [h.1]; exact hl)
  rw [this] at hj
  injection hj with hj
  rw [← hj]
  exact hc j hl
theorem eE_one (l : List Ev) : ∀ u ∈ l.flatMap eE, u.oneCell' = true := by
  intro u hu
  obtain ⟨e, _, he⟩ := List.mem_flatMap.1 hu
  simp only [eE, List.mem_cons, List.not_mem_nil, or_false] at he
  rcases he with rfl | rfl | rfl | rfl | rfl | rfl | rfl <;> rfl
theorem eE_len (l : List Ev) : (l.flatMap eE).length = l.length * 7 := by induction l with | nil => rfl | cons c l ih => simp [eE, ih]; omega
end Go.Proofs.Ytebdldinlodgpaa.Rc
