/-
  Insertion into a row of Ev of the call's own: append, copy, store; a box beside the row. No condition.
-/
import Derived.Test.YtebdldinlodgpaaPrIl
import Derived.Test.YtebdldinlodgpaaPrAo
import Derived.Laws.CopyOwn
namespace Go.Proofs.Ytebdldinlodgpaa.SE
open Go Go.RowKit Go.Lib Go.Sort Go.Shelf Go.Proofs Go.Proofs.Ytebdldinlodgpaa Go.Proofs.Ytebdldinlodgpaa.Tp Go.Proofs.Ytebdldinlodgpaa.Gm Go.Proofs.Ytebdldinlodgpaa.Rc
set_option linter.unusedVariables false
/-- A row of the call's own, or nothing, while it grows. -/
structure OwnG (w0 : World) (v : Value) (l : List Ev) (W : World) : Prop where
  row : W.ownsRow w0.heap.size 26 7 v l.length (fl l)
  below : Below w0.heap.size w0 W
theorem OwnG.grown {w0 W W' : World} {v v' : Value} {l m : List Ev} (h : OwnG w0 v l W) (ho : W'.ownsRow w0.heap.size 26 7 v' (l.length + m.length) (fl l ++ fl m)) (hg : W.grownBy W' v.ownBlock) : OwnG w0 v' (l ++ m) W' :=
  ⟨by rw [List.length_append, fl_app]; exact ho, h.below.grown hg h.below.size fun g hg' => (h.row.lt g hg').1⟩
theorem OwnG.more {w0 W W' : World} {v : Value} {l : List Ev} (h : OwnG w0 v l W) (hb : Below W.heap.size W W') : OwnG w0 v l W' := by
  refine ⟨⟨h.row.1, ?_⟩, h.below.trans (hb.mono h.below.size)⟩
  rcases h.row.2 with h0 | ⟨g, cap, cur, e, h1, h2, h3⟩
  · exact .inl h0
  · exact .inr ⟨g, cap, cur, e, h1, (hb.block g (Array.getElem?_eq_some_iff.1 h2).1).trans h2, h3⟩
theorem OwnG.nil (w : World) : OwnG w (.slice none 0 0) [] w := ⟨World.ownsRow_nil _ _ _ _, Below.refl _ _⟩
theorem fl_take : ∀ (l : List Ev) (k : Nat), (fl l).take (k * 7) = fl (l.take k)
  | [], k => by simp [fl]
  | x :: l, 0 => by simp [fl]
  | x :: l, k + 1 => by
    have := fl_take l k
    rw [List.take_succ_cons]
    show (encC x ++ fl l).take ((k + 1) * 7) = encC x ++ fl (l.take k)
    rw [show (k + 1) * 7 = (encC x).length + k * 7 by simp [encC]; omega, List.take_length_add_append, this]
theorem fl_drop : ∀ (l : List Ev) (k : Nat), (fl l).drop (k * 7) = fl (l.drop k)
  | [], k => by simp [fl]
  | x :: l, 0 => by simp [fl]
  | x :: l, k + 1 => by
    have := fl_drop l k
    rw [List.drop_succ_cons]
    show (encC x ++ fl l).drop ((k + 1) * 7) = fl (l.drop k)
    rw [show (k + 1) * 7 = (encC x).length + k * 7 by simp [encC]; omega, List.drop_length_add_append, this]
theorem fl_set : ∀ (l : List Ev) (p : Nat) (c : Ev), p < l.length → ((((((((fl l).set (p * 7) (.int .i64 c.kt)).set (p * 7 + 1) (.int .i64 c.ks)).set (p * 7 + 2) (.int .i64 c.em)).set (p * 7 + 3) (.int .i64 c.ti)).set (p * 7 + 4) (.int .i64 c.ki)).set (p * 7 + 5) (.int .i64 c.tt)).set (p * 7 + 6) (.int .i64 c.ts)) = fl (l.set p c)
  | [], p, c, h => by simp at h
  | x :: l, 0, c, _ => by simp [fl, encC]
  | x :: l, p + 1, c, h => by
    have := fl_set l p c (by simpa using h)
    rw [List.set_cons_succ]
    show (((((((encC x ++ fl l).set ((p + 1) * 7) _).set ((p + 1) * 7 + 1) _).set ((p + 1) * 7 + 2) _).set ((p + 1) * 7 + 3) _).set ((p + 1) * 7 + 4) _).set ((p + 1) * 7 + 5) _).set ((p + 1) * 7 + 6) _ = encC x ++ fl (l.set p c)
    have hl : (encC x).length = 7 := rfl
    rw [← this, List.set_append_right _ _ (by omega), List.set_append_right _ _ (by omega), List.set_append_right _ _ (by omega), List.set_append_right _ _ (by omega), List.set_append_right _ _ (by omega), List.set_append_right _ _ (by omega), List.set_append_right _ _ (by omega), hl,
      show (p + 1) * 7 - 7 = p * 7 by omega, show (p + 1) * 7 + 1 - 7 = p * 7 + 1 by omega, show (p + 1) * 7 + 2 - 7 = p * 7 + 2 by omega, show (p + 1) * 7 + 3 - 7 = p * 7 + 3 by omega, show (p + 1) * 7 + 4 - 7 = p * 7 + 4 by omega, show (p + 1) * 7 + 5 - 7 = p * 7 + 5 by omega, show (p + 1) * 7 + 6 - 7 = p * 7 + 6 by omega]
def from' (A : Option Addr) (cap k : Nat) : Option Addr := if cap = k then A else A.map fun x => x.add (k * 7)
theorem run_copy_row_w {P : Program} (w : World) (dT sT ty elem : TypeId) (sz g o dLen dCap : Nat) (a : Addr) (sLen sCap : Nat) (cur : Array Value) (t : TypeId) (cs : List Value)
    (hu : P.underlying dT = some (.slice elem)) (hs : (P.info? elem).map (·.size) = some sz)
    (hg : w.heap[g]? = some (.cells cur t (0, 0))) (hn : cs.length = Nat.min sLen dLen * sz)
    (hsrc : ∀ j v, cs[j]? = some v → w.cell? (a.add j) = some v) (hfit : o + cs.length ≤ cur.size) (h1 : ∀ v ∈ cs, v.oneCell' = true) :
    (Builtin.copy_ #[dT, sT] ty #[.slice (some ⟨g, o, none⟩) dLen dCap, .slice (some a) sLen sCap]).run P w =
      .ok (goInt (Nat.min sLen dLen)) (w.setRow g (cur.toList.take o ++ cs ++ cur.toList.drop (o + cs.length)).toArray) := by
  have hl := run_loadCells_list (P := P) w a cs hsrc
  have hst := run_storeCells_at P g o t cs 0 cur w hg (by simpa using hfit) h1
  cases hq : P.info? elem with
  | none => simp [hq] at hs
  | some i =>
    have hi : i.size = sz := by simpa [hq] using hs
    simp [Builtin.copy_, run_underlying hu, Builtin.lenOf, Builtin.firstCells, sizeOf, typeInfo, hq, hi, ← hn, hl, hst]
theorem run_copy_none_w {P : Program} (w : World) (dT sT ty elem : TypeId) (sz : Nat) (d a : Option Addr) (dLen dCap sLen sCap : Nat) (hu : P.underlying dT = some (.slice elem)) (hs : (P.info? elem).map (·.size) = some sz) (hn : Nat.min sLen dLen = 0) :
    (Builtin.copy_ #[dT, sT] ty #[.slice d dLen dCap, .slice a sLen sCap]).run P w = .ok (goInt 0) w := by
  cases hq : P.info? elem with
  | none => simp [hq] at hs
  | some i =>
    have hl : ∀ (x : Addr), (loadCells x 0).run P w = .ok #[] w := fun x => by simpa using run_loadCells_list (P := P) w x [] (by simp)
    cases d <;> cases a <;> simp [Builtin.copy_, run_underlying hu, Builtin.lenOf, Builtin.firstCells, sizeOf, typeInfo, hq, hn, storeCells, hl]

/-- A row with room made for one at p. -/
def room (out : List Ev) (z : Ev) (p : Nat) : List Ev := (out ++ [z]).take (p + 1) ++ out.drop p
theorem room_len (out : List Ev) (z : Ev) (p : Nat) (hp : p ≤ out.length) : (room out z p).length = out.length + 1 := by
  unfold room; rw [List.length_append, List.length_take, List.length_drop, List.length_append, List.length_singleton]; omega
theorem room_set (out : List Ev) (z c : Ev) (p : Nat) (hp : p ≤ out.length) : (room out z p).set p c = ins out p c := by
  have hl : ((out ++ [z]).take (p + 1)).length = p + 1 := by rw [List.length_take, List.length_append, List.length_singleton]; omega
  have e : ∃ y, (out ++ [z]).take (p + 1) = out.take p ++ [y] := by
    have hlen : p < (out ++ [z]).length := by simp; omega
    exact ⟨(out ++ [z])[p], by rw [List.take_succ_eq_append_getElem hlen, List.take_append_of_le_length hp]⟩
  obtain ⟨y, e⟩ := e
  have h2 : (out.take p).length = p := by rw [List.length_take]; omega
  unfold room ins
  rw [e, List.append_assoc, List.set_append_right _ _ (by omega), h2, Nat.sub_self]
  rfl
theorem step_room {P : Program} {w : World} {ops : Array Oper} {o : Oper} {a : Act} {K : Act → World → Prop} {Q : Exit → Act → World → Prop} {E : Prop} (hgd : o.guard = none) (d s : Operand) (dT sT : TypeId)
    (ho : o.op = .call { callee := .builtin .copy, args := #[d, s], argTypes := #[dT, sT] }) (elem : TypeId) (hu : P.underlying dT = some (.slice elem)) (hsz : (P.info? elem).map (·.size) = some 7)
    (W0 : World) (g n cap p : Nat) (out : List Ev) (z : Ev) (hG : OwnG W0 (.slice (some ⟨g, 0, none⟩) (n + 1) cap) (out ++ [z]) w) (hn : out.length = n) (hp : p ≤ n)
    (dL dC sL sC : Nat) (hd : a.eval d = .slice (from' (some ⟨g, 0, none⟩) cap (p + 1)) dL dC) (hs : a.eval s = .slice (from' (some ⟨g, 0, none⟩) cap p) sL sC) (hL1 : dL = n - p) (hL2 : sL = n + 1 - p)
    (h : ∀ w', OwnG W0 (.slice (some ⟨g, 0, none⟩) (n + 1) cap) (room out z p) w' → Only g w w' → K (a.put o.dst (goInt (Nat.min sL dL))) w') :
    if Region.wanted o (yielded ops a.tmps) = true then Oper.wp P o a w K Q else E := by
  have hw : Region.wanted o (yielded ops a.tmps) = true := by simp [Region.wanted, hgd]
  rw [if_pos hw]
  have hlen : (out ++ [z]).length = n + 1 := by rw [List.length_append, List.length_singleton, hn]
  have hr := hG.row
  rw [hlen] at hr
  have hmin : Nat.min sL dL = n - p := by
    have : Nat.min sL dL = dL := Nat.min_eq_right (by omega)
    omega
  rcases Nat.eq_or_lt_of_le hp with e | hlt
  · subst e
    have hrun := run_copy_none_w (P := P) w dT sT o.type elem 7 (from' (some ⟨g, 0, none⟩) cap (p + 1)) (from' (some ⟨g, 0, none⟩) cap p) dL dC sL sC hu hsz (by rw [hmin]; omega)
    unfold Oper.wp
    simp [execOp, ho, resolve, invoke, builtin, hd, hs, hrun, Result.andThen]
    have e2 : room out z p = out ++ [z] := by
      unfold room
      rw [List.take_of_length_le (by rw [hlen]; exact Nat.le_refl _), List.drop_eq_nil_of_le (by omega), List.append_nil]
    have := h w (by rw [e2]; exact hG) (Only.refl _ _)
    rw [hmin, Nat.sub_self] at this
    exact this
  · rcases hr.2 with ⟨h', _⟩ | ⟨g', cap', cur, h', hb, hg, hnc, hcm, hcs, htk⟩
    · cases h'
    · injection h' with e1 e2 e3
      injection e1 with e1
      injection e1 with e1 _
      subst e1 e3
      have c1 : ¬ cap = p + 1 := by omega
      have c2 : ¬ cap = p := by omega
      have f1 : from' (some ⟨g, 0, none⟩) cap (p + 1) = some ⟨g, (p + 1) * 7, none⟩ := by unfold from'; rw [if_neg c1]; simp [Addr.add_lit]
      have f2 : from' (some ⟨g, 0, none⟩) cap p = some ⟨g, p * 7, none⟩ := by unfold from'; rw [if_neg c2]; simp [Addr.add_lit]
      rw [f1] at hd
      rw [f2] at hs
      have hcl : (fl (out.drop p)).length = (n - p) * 7 := by rw [fl_len, List.length_drop, hn]
      have hrun := run_copy_row_w (P := P) w dT sT o.type elem 7 g ((p + 1) * 7) dL dC ⟨g, p * 7, none⟩ sL sC cur 26 (fl (out.drop p)) hu hsz hg (by rw [hmin, hcl])
        (fun j v hj => by
          have hj2 : j < (n - p) * 7 := by rw [← hcl]; exact (List.getElem?_eq_some_iff.1 hj).1
          have c := hr.cellAt (p * 7 + j) (by omega)
          rw [Addr.add_lit, c, ← hj, ← fl_drop, List.getElem?_drop, fl_app, List.getElem?_append_left (by rw [fl_len, hn]; omega)])
        (by rw [hcl, hcs]; omega) (fl_one _)
      obtain ⟨q, hq⟩ : ∃ q, Nat.min sL dL = q := ⟨_, rfl⟩
      rw [hq] at hrun h
      have hX : (cur.toList.take ((p + 1) * 7) ++ fl (out.drop p) ++ cur.toList.drop ((p + 1) * 7 + (fl (out.drop p)).length)).take ((n + 1) * 7) = fl (room out z p) := by
        have h1 : (cur.toList.take ((p + 1) * 7)).length = (p + 1) * 7 := by rw [List.length_take, Array.length_toList, hcs]; omega
        have h2 : (cur.toList.take ((p + 1) * 7) ++ fl (out.drop p)).length = (n + 1) * 7 := by rw [List.length_append, h1, hcl]; omega
        rw [List.take_append_of_le_length (by omega), List.take_of_length_le (by omega)]
        unfold room
        rw [fl_app, ← fl_take, ← htk, List.take_take, show min ((p + 1) * 7) ((n + 1) * 7) = (p + 1) * 7 by omega]
      have hrl : (room out z p).length = n + 1 := by rw [room_len _ _ _ (by omega), hn]
      have K1 := h (w.setRow g (cur.toList.take ((p + 1) * 7) ++ fl (out.drop p) ++ cur.toList.drop ((p + 1) * 7 + (fl (out.drop p)).length)).toArray)
        ⟨⟨by rw [fl_len], .inr ⟨g, cap, _, by rw [hrl], hb, setRow_heap w g cur _ 26 _ hg, by rw [hrl]; omega, hcm, by
          have h1 : (cur.toList.take ((p + 1) * 7)).length = (p + 1) * 7 := by rw [List.length_take, Array.length_toList, hcs]; omega
          simp only [List.size_toArray, List.length_append, List.length_drop, Array.length_toList, h1, hcl, hcs]; omega, by rw [hrl]; exact hX⟩⟩, below_setRow hG.below hb _⟩
        ⟨rfl, rfl, rfl, by simp [World.setRow], fun k _ hk => setRow_other w g k _ hk⟩
      generalize w.setRow g (cur.toList.take ((p + 1) * 7) ++ fl (out.drop p) ++ cur.toList.drop ((p + 1) * 7 + (fl (out.drop p)).length)).toArray = W' at hrun K1
      unfold Oper.wp
      simp [execOp, ho, resolve, invoke, builtin, hd, hs, hrun, Result.andThen]
      exact K1
/-- The store of the one more. -/
theorem OwnG.put {w0 W : World} {g n cap p : Nat} {out : List Ev} {z : Ev} (h : OwnG w0 (.slice (some ⟨g, 0, none⟩) (n + 1) cap) (room out z p) W) (hn : out.length = n) (hp : p ≤ n) (c : Ev) :
    OwnG w0 (.slice (some ⟨g, 0, none⟩) (n + 1) cap) (ins out p c) (((((((W.setCell ⟨g, p * 7, none⟩ (.int .i64 c.kt)).setCell ⟨g, p * 7 + 1, none⟩ (.int .i64 c.ks)).setCell ⟨g, p * 7 + 2, none⟩ (.int .i64 c.em)).setCell ⟨g, p * 7 + 3, none⟩ (.int .i64 c.ti)).setCell ⟨g, p * 7 + 4, none⟩ (.int .i64 c.ki)).setCell ⟨g, p * 7 + 5, none⟩ (.int .i64 c.tt)).setCell ⟨g, p * 7 + 6, none⟩ (.int .i64 c.ts)) := by
  have hrl : (room out z p).length = n + 1 := by rw [room_len _ _ _ (by omega), hn]
  have hr := h.row
  rw [hrl] at hr
  have hg := (hr.lt g (by simp [Value.ownBlock])).1
  have s := (((((((hr.stored (p * 7) (.int .i64 c.kt)).1.stored (p * 7 + 1) (.int .i64 c.ks)).1.stored (p * 7 + 2) (.int .i64 c.em)).1.stored (p * 7 + 3) (.int .i64 c.ti)).1.stored (p * 7 + 4) (.int .i64 c.ki)).1.stored (p * 7 + 5) (.int .i64 c.tt)).1.stored (p * 7 + 6) (.int .i64 c.ts)).1
  rw [fl_set _ _ _ (by omega), room_set _ _ _ _ (by omega)] at s
  refine ⟨?_, (((((((h.below.setCell hg _).setCell hg _).setCell hg _).setCell hg _).setCell hg _).setCell hg _).setCell hg _)⟩
  rw [length_ins _ _ _ (by omega), hn]
  exact s
/-- Its cells, ahead of the store. -/
theorem OwnG.cells {w0 W : World} {g n cap p : Nat} {l : List Ev} (h : OwnG w0 (.slice (some ⟨g, 0, none⟩) n cap) l W) (hn : l.length = n) (hp : p < n) : At4 W ⟨g, p * 7, none⟩ l[p]! ∧ ∀ j, W.frozen? ⟨g, j, none⟩ = false := by
  have hr := h.row
  rw [hn] at hr
  obtain ⟨r, _, _, _⟩ := own_row hr hn
  have := r.cell p (by simpa [hn] using hp)
  exact ⟨by simpa using this, fun j => hr.frozenAt j⟩
/-- A box of an element's cells. -/
structure Bx (W : World) (s : Nat) (c : Ev) : Prop where
  at4 : At4 W ⟨s, 0, none⟩ c
  free : ∀ j, j < 7 → W.frozen? ⟨s, j, none⟩ = false
theorem Bx.lt {W : World} {s : Nat} {c : Ev} (h : Bx W s c) : s < W.heap.size := h.at4.lt
theorem Bx.keep {W W' : World} {s : Nat} {c : Ev} (h : Bx W s c) (hb : W'.heap[s]? = W.heap[s]?) : Bx W' s c := ⟨h.at4.block hb, fun j hj => (World.frozen?_of_block (a := ⟨s, j, none⟩) hb).trans (h.free j hj)⟩
theorem Bx.only {W W' : World} {s b : Nat} {c : Ev} (h : Bx W s c) (ho : Only b W W') (hs : s ≠ b) : Bx W' s c := h.keep (ho.block s h.lt hs)
theorem Bx.alloc {W : World} {s : Nat} {c : Ev} (h : Bx W s c) (o : Obj) : Bx (W.alloc o) s c := h.keep (Below.heap_alloc W o _ h.lt)
theorem Bx.new (W : World) (c : Ev) (t : TypeId) : Bx (W.alloc (.cells #[.int .i64 c.kt, .int .i64 c.ks, .int .i64 c.em, .int .i64 c.ti, .int .i64 c.ki, .int .i64 c.tt, .int .i64 c.ts] t)) W.heap.size c :=
  ⟨⟨by go_simp, by go_simp, by go_simp, by go_simp, by go_simp, by go_simp, by go_simp⟩, fun j hj => World.frozen?_alloc_at _ _ _ _ rfl⟩
theorem oth (W : World) (s i j : Nat) (v : Value) (h : i ≠ j) : (W.setCell ⟨s, i, none⟩ v).cell? ⟨s, j, none⟩ = W.cell? ⟨s, j, none⟩ := World.cell?_setCell_other _ _ _ _ (fun e => h (by injection e))
theorem Bx.put {W : World} {s : Nat} {z : Ev} (h : Bx W s z) (c : Ev) : Bx (((((((W.setCell ⟨s, 0, none⟩ (.int .i64 c.kt)).setCell ⟨s, 1, none⟩ (.int .i64 c.ks)).setCell ⟨s, 2, none⟩ (.int .i64 c.em)).setCell ⟨s, 3, none⟩ (.int .i64 c.ti)).setCell ⟨s, 4, none⟩ (.int .i64 c.ki)).setCell ⟨s, 5, none⟩ (.int .i64 c.tt)).setCell ⟨s, 6, none⟩ (.int .i64 c.ts)) s c := by
  obtain ⟨⟨a0, a1, a2, a3, a4, a5, a6⟩, hf⟩ := h
  have b0 : W.cell? ⟨s, 0, none⟩ = _ := a0
  have b1 : W.cell? ⟨s, 1, none⟩ = _ := a1
  have b2 : W.cell? ⟨s, 2, none⟩ = _ := a2
  have b3 : W.cell? ⟨s, 3, none⟩ = _ := a3
  have b4 : W.cell? ⟨s, 4, none⟩ = _ := a4
  have b5 : W.cell? ⟨s, 5, none⟩ = _ := a5
  have b6 : W.cell? ⟨s, 6, none⟩ = _ := a6
  refine ⟨⟨?_, ?_, ?_, ?_, ?_, ?_, ?_⟩, fun j hj => ?_⟩
  · rw [oth _ _ 6 0 _ (by decide), oth _ _ 5 0 _ (by decide), oth _ _ 4 0 _ (by decide), oth _ _ 3 0 _ (by decide), oth _ _ 2 0 _ (by decide), oth _ _ 1 0 _ (by decide)]
    exact World.cell?_setCell_same _ _ _ b0
  · show World.cell? _ ⟨s, 1, none⟩ = _
    rw [oth _ _ 6 1 _ (by decide), oth _ _ 5 1 _ (by decide), oth _ _ 4 1 _ (by decide), oth _ _ 3 1 _ (by decide), oth _ _ 2 1 _ (by decide)]
    exact World.cell?_setCell_same _ _ _ (by rw [oth _ _ 0 1 _ (by decide)]; exact b1)
  · show World.cell? _ ⟨s, 2, none⟩ = _
    rw [oth _ _ 6 2 _ (by decide), oth _ _ 5 2 _ (by decide), oth _ _ 4 2 _ (by decide), oth _ _ 3 2 _ (by decide)]
    exact World.cell?_setCell_same _ _ _ (by rw [oth _ _ 1 2 _ (by decide), oth _ _ 0 2 _ (by decide)]; exact b2)
  · show World.cell? _ ⟨s, 3, none⟩ = _
    rw [oth _ _ 6 3 _ (by decide), oth _ _ 5 3 _ (by decide), oth _ _ 4 3 _ (by decide)]
    exact World.cell?_setCell_same _ _ _ (by rw [oth _ _ 2 3 _ (by decide), oth _ _ 1 3 _ (by decide), oth _ _ 0 3 _ (by decide)]; exact b3)
  · show World.cell? _ ⟨s, 4, none⟩ = _
    rw [oth _ _ 6 4 _ (by decide), oth _ _ 5 4 _ (by decide)]
    exact World.cell?_setCell_same _ _ _ (by rw [oth _ _ 3 4 _ (by decide), oth _ _ 2 4 _ (by decide), oth _ _ 1 4 _ (by decide), oth _ _ 0 4 _ (by decide)]; exact b4)
  · show World.cell? _ ⟨s, 5, none⟩ = _
    rw [oth _ _ 6 5 _ (by decide)]
    exact World.cell?_setCell_same _ _ _ (by rw [oth _ _ 4 5 _ (by decide), oth _ _ 3 5 _ (by decide), oth _ _ 2 5 _ (by decide), oth _ _ 1 5 _ (by decide), oth _ _ 0 5 _ (by decide)]; exact b5)
  · show World.cell? _ ⟨s, 6, none⟩ = _
    exact World.cell?_setCell_same _ _ _ (by rw [oth _ _ 5 6 _ (by decide), oth _ _ 4 6 _ (by decide), oth _ _ 3 6 _ (by decide), oth _ _ 2 6 _ (by decide), oth _ _ 1 6 _ (by decide), oth _ _ 0 6 _ (by decide)]; exact b6)
  · rw [World.frozen?_setCell, World.frozen?_setCell, World.frozen?_setCell, World.frozen?_setCell, World.frozen?_setCell, World.frozen?_setCell, World.frozen?_setCell]; exact hf j hj
/-- A box of one element, and nothing behind it. -/
structure Bz (W : World) (s : Nat) (c : Ev) : Prop where
  bx : Bx W s c
  no : W.cell? ⟨s, 7, none⟩ = none
theorem Bz.keep {W W' : World} {s : Nat} {c : Ev} (h : Bz W s c) (hb : W'.heap[s]? = W.heap[s]?) : Bz W' s c := ⟨h.bx.keep hb, (World.cell?_of_block (a := ⟨s, 7, none⟩) hb).trans h.no⟩
theorem Bz.below {W W' : World} {s : Nat} {c : Ev} (h : Bz W s c) (hb : Below W.heap.size W W') : Bz W' s c := h.keep (hb.block s h.bx.lt)
theorem Bz.new (W : World) (c : Ev) (t : TypeId) : Bz (W.alloc (.cells #[.int .i64 c.kt, .int .i64 c.ks, .int .i64 c.em, .int .i64 c.ti, .int .i64 c.ki, .int .i64 c.tt, .int .i64 c.ts] t)) W.heap.size c := ⟨Bx.new W c t, by simp⟩
theorem Bz.put {W : World} {s : Nat} {z : Ev} (h : Bz W s z) (c : Ev) : Bz (((((((W.setCell ⟨s, 0, none⟩ (.int .i64 c.kt)).setCell ⟨s, 1, none⟩ (.int .i64 c.ks)).setCell ⟨s, 2, none⟩ (.int .i64 c.em)).setCell ⟨s, 3, none⟩ (.int .i64 c.ti)).setCell ⟨s, 4, none⟩ (.int .i64 c.ki)).setCell ⟨s, 5, none⟩ (.int .i64 c.tt)).setCell ⟨s, 6, none⟩ (.int .i64 c.ts)) s c :=
  ⟨h.bx.put c, by rw [oth _ _ _ _ _ (by decide), oth _ _ _ _ _ (by decide), oth _ _ _ _ _ (by decide), oth _ _ _ _ _ (by decide), oth _ _ _ _ _ (by decide), oth _ _ _ _ _ (by decide), oth _ _ _ _ _ (by decide)]; exact h.no⟩
/-- What a row of one's own looks like. -/
theorem OwnG.form {w0 W : World} {v : Value} {l : List Ev} (h : OwnG w0 v l W) : ∃ A cap, v = .slice A l.length cap ∧ ∀ p, p < l.length → ∃ g, A = some ⟨g, 0, none⟩ := by
  rcases h.row.2 with ⟨rfl, h0⟩ | ⟨g, cap, cur, rfl, _⟩
  · exact ⟨none, 0, by rw [h0], fun p hp => by omega⟩
  · exact ⟨_, cap, rfl, fun p _ => ⟨g, rfl⟩⟩
/-- A base that tells the grown row from a box. -/
theorem OwnG.base {w0 W : World} {A : Option Addr} {n cap s : Nat} {l : List Ev} (h : OwnG w0 (.slice A n cap) l W) (hn : l.length = n) (hz : l = [] → (Value.slice A n cap) = .slice none 0 0) (hs : s < W.heap.size) :
    ∃ bs, W.ownsRow bs 26 7 (.slice A n cap) n (fl l) ∧ w0.heap.size ≤ bs ∧ bs ≤ W.heap.size ∧ (n = 0 → s < bs) := by
  have hr := h.row
  rw [hn] at hr
  by_cases h0 : n = 0
  · have e : l = [] := List.length_eq_zero_iff.1 (by omega)
    have hb := h.below.size
    refine ⟨W.heap.size, ?_, hb, Nat.le_refl _, fun _ => hs⟩
    rw [hz e, e, h0]
    exact World.ownsRow_nil _ _ _ _
  · exact ⟨w0.heap.size, hr, Nat.le_refl _, h.below.size, fun e => absurd e h0⟩
theorem own_weak {W : World} {b b' n : Nat} {v : Value} {xs : List Value} (h : W.ownsRow b 26 7 v n xs) (hb : b' ≤ b) : W.ownsRow b' 26 7 v n xs := by
  refine ⟨h.1, ?_⟩
  rcases h.2 with h0 | ⟨g, cap, cur, e, h1, h2⟩
  · exact .inl h0
  · exact .inr ⟨g, cap, cur, e, by omega, h2⟩
/-- Behind the append: the row, in a block that is not the box's. -/
theorem app_done {w0 W W4 : World} {A : Option Addr} {n cap s bs : Nat} {l : List Ev} {z c : Ev} {v2 : Value} (h : OwnG w0 (.slice A n cap) l W) (hn : l.length = n) (hb : w0.heap.size ≤ bs) (h0 : n = 0 → s < bs) (hx : Bz W s c) (hne : (Value.slice A n cap).ownBlock ≠ some s)
    (o2 : W4.ownsRow bs 26 7 v2 (n + 1) (fl l ++ fl [z])) (g2 : W.grownBy W4 (Value.slice A n cap).ownBlock) :
    OwnG w0 v2 (l ++ [z]) W4 ∧ Bz W4 s c ∧ ∃ A4 g4 cap4, v2 = .slice A4 (n + 1) cap4 ∧ A4 = some ⟨g4, 0, none⟩ ∧ n + 1 ≤ cap4 ∧ cap4 ≤ maxLen ∧ g4 ≠ s ∧ w0.heap.size ≤ g4 := by
  have hz : Bz W4 s c := hx.keep (g2.block s hx.bx.lt (fun e => hne e.symm))
  refine ⟨OwnG.grown (m := [z]) h (by rw [hn]; exact own_weak o2 hb) g2, hz, ?_⟩
  rcases o2.2 with ⟨_, e⟩ | ⟨g, cap', cur, rfl, h1, h2, h3, h4, h5, h6⟩
  · omega
  · refine ⟨_, g, cap', rfl, rfl, h3, h4, fun e => ?_, by omega⟩
    subst e
    rcases Nat.eq_zero_or_pos n with e0 | e0
    · have := h0 e0; omega
    · have c4 := o2.cellAt 7 (by omega)
      rw [hz.no] at c4
      have hlen := o2.1
      have : 7 < (fl l ++ fl [z]).length := by omega
      rw [List.getElem?_eq_getElem this] at c4
      cases c4
theorem step_room_a {P : Program} {w : World} {ops : Array Oper} {o : Oper} {a : Act} {K : Act → World → Prop} {Q : Exit → Act → World → Prop} {E : Prop} (hgd : o.guard = none) (d s : Operand) (dT sT : TypeId)
    (ho : o.op = .call { callee := .builtin .copy, args := #[d, s], argTypes := #[dT, sT] }) (elem : TypeId) (hu : P.underlying dT = some (.slice elem)) (hsz : (P.info? elem).map (·.size) = some 7)
    (W0 : World) (A : Option Addr) (g : Nat) (hA : A = some ⟨g, 0, none⟩) (n cap p : Nat) (out : List Ev) (z : Ev) (hG : OwnG W0 (.slice A (n + 1) cap) (out ++ [z]) w) (hn : out.length = n) (hp : p ≤ n)
    (dL dC sL sC : Nat) (hd : a.eval d = .slice (from' A cap (p + 1)) dL dC) (hs : a.eval s = .slice (from' A cap p) sL sC) (hL1 : dL = n - p) (hL2 : sL = n + 1 - p)
    (h : ∀ w', OwnG W0 (.slice (some ⟨g, 0, none⟩) (n + 1) cap) (room out z p) w' → Only g w w' → K (a.put o.dst (goInt (Nat.min sL dL))) w') :
    if Region.wanted o (yielded ops a.tmps) = true then Oper.wp P o a w K Q else E := by
  subst hA
  exact step_room hgd d s dT sT ho elem hu hsz W0 g n cap p out z hG hn hp dL dC sL sC hd hs hL1 hL2 h
theorem infoS4 : (Try.prog.info? 26).map (·.size) = some 7 := by kernel_rfl
theorem ins_ne (l : List Ev) (p : Nat) (c : Ev) : ins l p c ≠ [] := by unfold ins; simp
end Go.Proofs.Ytebdldinlodgpaa.SE
