/-
  The generator's SpoilZone: of a zone of at most three changes some zone of at most four, in blocks of its own. Condition: the tape's block reads as a tape, the zone's changes read.
-/
import Derived.Test.YtbbfkpkibakieaaPrZl2
import Derived.OwnWalk
import Derived.Laws.AppendOwnNone
namespace Go.Proofs.Ytbbfkpkibakieaa.Tp
open Go Go.RowKit Go.Lib Go.Proofs.Ytbbfkpkibakieaa

theorem two (w : World) (x0 x1 : Int) (t : TypeId) : ∀ i, i < ([x0, x1] : List Int).length → (w.alloc (.cells #[.int .i64 x0, .int .i64 x1] t)).cell? ⟨w.heap.size, i, none⟩ = some (.int .i64 (([x0, x1] : List Int).getD i 0)) := by
  intro i hi
  rcases i with _ | _ | i
  · go_simp
  · go_simp
  · simp at hi; omega
theorem tri (w : World) (x0 x1 x2 : Int) (t : TypeId) : ∀ i, i < ([x0, x1, x2] : List Int).length → (w.alloc (.cells #[.int .i64 x0, .int .i64 x1, .int .i64 x2] t)).cell? ⟨w.heap.size, i, none⟩ = some (.int .i64 (([x0, x1, x2] : List Int).getD i 0)) := by
  intro i hi
  rcases i with _ | _ | _ | i
  · go_simp
  · go_simp
  · go_simp
  · simp at hi; omega
theorem cellsA (w : World) (cs : Array Value) (t : TypeId) (k : Nat) (u : Value) (h : cs.toList[k]? = some u) : (w.alloc (.cells cs t)).cell? ((⟨w.heap.size, 0, none⟩ : Addr).add k) = some u := by
  have e : (⟨w.heap.size, 0, none⟩ : Addr).add k = ⟨w.heap.size, k, none⟩ := by unfold Addr.add; split <;> simp_all
  rw [e, World.cell?_alloc_at _ _ _ _ rfl]
  simpa using h

/-- An append of a row that may be nothing to a row of one's own. -/
theorem wpList_append_opt {P : Program} (w : World) {ops : Array Oper} {rest : List Oper} {o : Oper} {a : Act} {Q : Exit → Act → World → Prop} (hgd : o.guard = none) (s x : Operand) (t : TypeId)
    (ho : o.op = .call { callee := .builtin .append, args := #[s, x], argTypes := #[t, t] })
    (base : Nat) (e : TypeId) (i : TypeInfo) (z : Value) (size bytes : Nat) (ht : P.underlying t = some (.slice e)) (hi : P.info? e = some i) (hz : i.zero = some z)
    (hsize : i.size = size) (hby : i.bytes = bytes) (hzs : z.cells.size = size) (hsz : 0 < size)
    (v : Value) (n : Nat) (xs : List Value) (hs : a.eval s = v) (hown : w.ownsRow base e size v n xs)
    (A : Option Addr) (m c : Nat) (news : List Value) (hx : a.eval x = .slice A m c) (hl : news.length = m * size) (h0 : A = none → m = 0 ∧ c = 0) (hnews : ∀ ad, A = some ad → ∀ j u, news[j]? = some u → w.cell? (ad.add j) = some u) (h1 : ∀ u ∈ news, u.oneCell' = true)
    (h63 : n + m ≤ maxLen) (hbytes : (n + m) * bytes ≤ 140737488355328) (hbase : base ≤ w.heap.size)
    (h : ∀ v' w', w'.ownsRow base e size v' (n + m) (xs ++ news) → w.grownBy w' v.ownBlock → (v' = .slice none 0 0 ↔ v = .slice none 0 0 ∧ m = 0) → wpList P ops Q rest (a.put o.dst v') w') : wpList P ops Q (o :: rest) a w := by
  rcases A with _ | ad
  · obtain ⟨rfl, rfl⟩ := h0 rfl
    obtain rfl : news = [] := List.length_eq_zero_iff.mp (by rw [hl]; omega)
    exact wpList_append_own_none hgd s x t ho base e i size ht hi v n xs hs hown hx (h v w (by simpa using hown) (World.grownBy.refl _ _) (by simp))
  · exact wpList_append_own w hgd s x t ho base e i z size bytes ht hi hz hsize hby hzs hsz v n xs hs hown ad m c news hx hl (hnews ad rfl) h1 h63 hbytes hbase h

/-- The zone while it is spoiled: its box, the result's box, the copy of the changes, the tape. -/
structure SZ (w0 : World) (b : Nat) (off : Int) (v0 : Value) (g n c2 : Nat) (cs : List (Int × Int)) (W : World) : Prop where
  box : W.heap[w0.heap.size]? = some (.cells #[.int .i64 off, v0] 24 (0, 0))
  res : W.heap[w0.heap.size + 1]? = some (.cells #[.int .i64 0, .slice none 0 0] 24 (0, 0))
  row : W.ownsRow (w0.heap.size + 2) 27 2 (.slice (some ⟨g, 0, none⟩) n c2) n (cs.flatMap ccells)
  len : cs.length = n
  tape : TapeAt b W
  only : Only b w0 W
  lt : b < w0.heap.size
section
variable {w0 W : World} {b : Nat} {off : Int} {v0 : Value} {g n c2 : Nat} {cs : List (Int × Int)}
theorem SZ.g0 (h : SZ w0 b off v0 g n c2 cs W) : w0.heap.size + 2 ≤ g ∧ g < W.heap.size := h.row.lt g rfl
theorem SZ.alloc (h : SZ w0 b off v0 g n c2 cs W) (o : Obj) : SZ w0 b off v0 g n c2 cs (W.alloc o) :=
  ⟨(Below.heap_alloc W o _ (Array.getElem?_eq_some_iff.1 h.box).1).trans h.box, (Below.heap_alloc W o _ (Array.getElem?_eq_some_iff.1 h.res).1).trans h.res, h.row.alloc o, h.len, h.tape.alloc o, h.only.alloc o, h.lt⟩
theorem SZ.only' (h : SZ w0 b off v0 g n c2 cs W) {W' : World} (hT : TapeAt b W') (hO : Only b W W') : SZ w0 b off v0 g n c2 cs W' := by
  have hlt := h.lt
  refine ⟨(hO.block _ (Array.getElem?_eq_some_iff.1 h.box).1 (by omega)).trans h.box, (hO.block _ (Array.getElem?_eq_some_iff.1 h.res).1 (by omega)).trans h.res, ⟨h.row.1, ?_⟩, h.len, hT, h.only.trans hO, hlt⟩
  rcases h.row.2 with h0 | ⟨g', cap, cur, e, hg, hc, rest⟩
  · exact .inl h0
  · exact .inr ⟨g', cap, cur, e, hg, (hO.block g' (Array.getElem?_eq_some_iff.1 hc).1 (by omega)).trans hc, rest⟩
theorem SZ.grown (h : SZ w0 b off v0 g n c2 cs W) {w6 : World} {g6 n6 c6 : Nat} {cs6 : List (Int × Int)} (hg : W.grownBy w6 (some g)) (hown : w6.ownsRow (w0.heap.size + 2) 27 2 (.slice (some ⟨g6, 0, none⟩) n6 c6) n6 (cs6.flatMap ccells)) (hl : cs6.length = n6) : SZ w0 b off v0 g6 n6 c6 cs6 w6 := by
  have hlt := h.lt
  obtain ⟨q0, q1⟩ := h.g0
  have key : ∀ k, k < W.heap.size → k < w0.heap.size + 2 → w6.heap[k]? = W.heap[k]? := fun k hk hk2 => hg.block k hk (fun e => by injection e with e; omega)
  refine ⟨(key _ (Array.getElem?_eq_some_iff.1 h.box).1 (by omega)).trans h.box, (key _ (Array.getElem?_eq_some_iff.1 h.res).1 (by omega)).trans h.res, hown, hl, ?_, ?_, hlt⟩
  · obtain ⟨a, len, cap, zs, k, t1, t2, t3, t4, t5, t6⟩ := h.tape
    have fb : ∀ q : Addr, q.block ≤ b → ∀ u, W.cell? q = some u → w6.cell? q = some u := fun q hq u hu =>
      (World.cell?_of_block (key q.block (World.block_lt_of_cell? W q hu) (by omega))).trans hu
    refine ⟨a, len, cap, zs, k, fb _ (Nat.le_refl _) _ t1, fb _ (Nat.le_refl _) _ t2, (World.frozen?_of_block (key b (World.block_lt_of_cell? W _ t2) (by omega))).trans t3, t4, t5, ?_⟩
    rcases t6 with t6 | ⟨x, ha, hx, hc⟩
    · exact .inl t6
    · exact .inr ⟨x, ha, hx, fun i hi => ⟨fb _ (by rw [add_block]; omega) _ (hc i hi).1, (hc i hi).2⟩⟩
  · exact ⟨hg.os.trans h.only.os, hg.tape.trans h.only.tape, hg.output.trans h.only.output, Nat.le_trans h.only.size hg.size, fun k hk hn =>
      (key k (Nat.lt_of_lt_of_le hk h.only.size) (by omega)).trans (h.only.block k hk hn)⟩
theorem SZ.cells (h : SZ w0 b off v0 g n c2 cs W) : ∀ k u, (cs.flatMap ccells)[k]? = some u → W.cell? ((⟨g, 0, none⟩ : Addr).add k) = some u := h.row.cells rfl
theorem SZ.chrow (h : SZ w0 b off v0 g n c2 cs W) : ChRow W W.heap.size (some ⟨g, 0, none⟩) n cs := chRow_mk h.len h.g0.2 h.cells
end

/-- What is left of it at the end. -/
structure SF (w0 : World) (b g n : Nat) (cs : List (Int × Int)) (W : World) : Prop where
  row : ChRow W W.heap.size (some ⟨g, 0, none⟩) n cs
  ge : w0.heap.size + 2 ≤ g
  tape : TapeAt b W
  only : Only b w0 W
  lt : b < w0.heap.size
theorem SZ.sf {w0 W : World} {b : Nat} {off : Int} {v0 : Value} {g n c2 : Nat} {cs : List (Int × Int)} (h : SZ w0 b off v0 g n c2 cs W) : SF w0 b g n cs W := ⟨h.chrow, h.g0.1, h.tape, h.only, h.lt⟩
theorem SF.set {w0 W : World} {b g n : Nat} {cs : List (Int × Int)} (h : SF w0 b g n cs W) {p : Addr} (h0 : w0.heap.size ≤ p.block) (h1 : p.block < w0.heap.size + 2) (v : Value) : SF w0 b g n cs (W.setCell p v) := by
  have hge := h.ge
  have hlt := h.lt
  refine ⟨?_, hge, h.tape.far (by omega) _, h.only.setCell (.inr h0) _, hlt⟩
  have := ChRow.far h.row p v (fun y hy => by injection hy with hy; rw [← hy]; show p.block ≠ g; omega)
  exact this.mono (by simp [World.setCell])
/-- The first change's offset is another. -/
theorem SF.first {w0 W : World} {b g n : Nat} {c : Int × Int} {r : List (Int × Int)} (h : SF w0 b g n (c :: r) W) (q : Int) : SF w0 b g n ((c.1, q) :: r) (W.setCell ⟨g, 1, none⟩ (.int .i64 q)) := by
  have hge := h.ge
  have hlt := h.lt
  refine ⟨?_, hge, h.tape.far (p := ⟨g, 1, none⟩) (by show b < g; omega) _, h.only.setCell (p := ⟨g, 1, none⟩) (.inr (by show w0.heap.size ≤ g; omega)) _, hlt⟩
  refine ⟨by simpa using h.row.1, fun hn => ?_⟩
  obtain ⟨x, ha, hx, hc⟩ := h.row.2 hn
  injection ha with ha
  subst ha
  refine ⟨_, rfl, by simpa [World.setCell] using hx, fun i hi => ?_⟩
  have e0 : ∀ k, ((⟨g, 0, none⟩ : Addr).add k) = ⟨g, k, none⟩ := fun k => by unfold Addr.add; split <;> simp_all
  obtain ⟨c1, c2⟩ := hc i (by simpa using hi)
  rw [e0] at c1 c2 ⊢
  have f1 : (W.setCell ⟨g, 1, none⟩ (.int .i64 q)).cell? ⟨g, i * 2, none⟩ = W.cell? ⟨g, i * 2, none⟩ := World.cell?_setCell_other _ _ _ _ (fun e => by injection e with _ e _; omega)
  rcases i with _ | i
  · exact ⟨f1.trans c1, World.cell?_setCell_same _ _ _ c2⟩
  · have f2 : (W.setCell ⟨g, 1, none⟩ (.int .i64 q)).cell? ⟨g, (i + 1) * 2 + 1, none⟩ = W.cell? ⟨g, (i + 1) * 2 + 1, none⟩ := World.cell?_setCell_other _ _ _ _ (fun e => by injection e with _ e _; omega)
    exact ⟨f1.trans c1, f2.trans c2⟩

/-- What SpoilZone leaves. -/
def SpR (b : Nat) (w : World) (e : Ending) (w' : World) : Prop :=
  ∃ (off : Int) (a : Option Addr) (n cap : Nat) (cs : List (Int × Int)), e = .returned (.agg #[.int .i64 off, .slice a n cap]) ∧ n ≤ 4 ∧ ChRow w' w'.heap.size a n cs ∧ TapeAt b w' ∧ Only b w w'
end Go.Proofs.Ytbbfkpkibakieaa.Tp
