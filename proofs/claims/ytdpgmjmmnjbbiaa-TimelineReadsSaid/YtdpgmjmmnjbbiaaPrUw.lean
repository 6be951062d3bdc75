/-
  Layer 6 (timeline): copy within a row of changes, as a step of a region that draws: the room for one more; the store of the one more. No condition.
-/
import Derived.Test.YtdpgmjmmnjbbiaaPrUu
import Derived.Laws.CopyOwn
namespace Go.Proofs.Ytdpgmjmmnjbbiaa.Tl
open Go Go.RowKit Go.Lib Go.Sort Go.Shelf Go.Proofs Go.Proofs.Ytdpgmjmmnjbbiaa Go.Proofs.Ytdpgmjmmnjbbiaa.Tp
set_option linter.unusedVariables false

theorem fl_take : ∀ (l : List Chg) (k : Nat), (fl l).take (k * 4) = fl (l.take k)
  | [], k => by simp [fl]
  | x :: l, 0 => by simp [fl]
  | x :: l, k + 1 => by
    have := fl_take l k
    rw [List.take_succ_cons]
    show (encC x ++ fl l).take ((k + 1) * 4) = encC x ++ fl (l.take k)
    rw [show (k + 1) * 4 = (encC x).length + k * 4 by simp [encC]; omega, List.take_length_add_append, this]
theorem fl_drop : ∀ (l : List Chg) (k : Nat), (fl l).drop (k * 4) = fl (l.drop k)
  | [], k => by simp [fl]
  | x :: l, 0 => by simp [fl]
  | x :: l, k + 1 => by
    have := fl_drop l k
    rw [List.drop_succ_cons]
    show (encC x ++ fl l).drop ((k + 1) * 4) = fl (l.drop k)
    rw [show (k + 1) * 4 = (encC x).length + k * 4 by simp [encC]; omega, List.drop_length_add_append, this]
theorem fl_set : ∀ (l : List Chg) (p : Nat) (c : Chg), p < l.length → (((((fl l).set (p * 4) (.int .i64 c.fr)).set (p * 4 + 1) (.int .i64 c.kn)).set (p * 4 + 2) (.int .i64 c.va)).set (p * 4 + 3) (.bool c.de)) = fl (l.set p c)
  | [], p, c, h => by simp at h
  | x :: l, 0, c, _ => by simp [fl, encC]
  | x :: l, p + 1, c, h => by
    have := fl_set l p c (by simpa using h)
    rw [List.set_cons_succ]
    show ((((encC x ++ fl l).set ((p + 1) * 4) _).set ((p + 1) * 4 + 1) _).set ((p + 1) * 4 + 2) _).set ((p + 1) * 4 + 3) _ = encC x ++ fl (l.set p c)
    have hl : (encC x).length = 4 := rfl
    rw [← this, List.set_append_right _ _ (by omega), List.set_append_right _ _ (by omega), List.set_append_right _ _ (by omega), List.set_append_right _ _ (by omega), hl,
      show (p + 1) * 4 - 4 = p * 4 by omega, show (p + 1) * 4 + 1 - 4 = p * 4 + 1 by omega, show (p + 1) * 4 + 2 - 4 = p * 4 + 2 by omega, show (p + 1) * 4 + 3 - 4 = p * 4 + 3 by omega]

theorem run_copy_row_w {P : Program} (w : World) (dT sT ty elem : TypeId) (sz g o dLen dCap : Nat) (a : Addr) (sLen sCap : Nat) (cur : Array Value) (t : TypeId) (cs : List Value)
    (hu : P.underlying dT = some (.slice elem)) (hs : (P.info? elem).map (·.size) = some sz)
    (hg : w.heap[g]? = some (.cells cur t (0, 0))) (hn : cs.length = Nat.min sLen dLen * sz)
    (hsrc : ∀ j v, cs[j]? = some v → w.cell? (a.add j) = some v) (hfit : o + cs.length ≤ cur.size) (h1 : ∀ v ∈ cs, v.oneCell' = true) :
    (Builtin.copy_ #[dT, sT] ty #[.slice (some ⟨g, o, none⟩) dLen dCap, .slice (some a) sLen sCap]).run P w =
      .ok (goInt (Nat.min sLen dLen)) (w.setRow g (cur.toList.take o ++ cs ++ cur.toList.drop (o + cs.length)).toArray) := by
  have hl := run_loadCells_list (P := P) w a cs hsrc
  have hst := run_storeCells_at P g o t cs 0 cur w hg (by simpa using hfit) h1
  cases hq : P.info? elem with
  | none => simp [hq] at hs
  | some i =>
    have hi : i.size = sz := by simpa [hq] using hs
    simp [Builtin.copy_, run_underlying hu, Builtin.lenOf, Builtin.firstCells, sizeOf, typeInfo, hq, hi, ← hn, hl, hst]
theorem run_copy_none_w {P : Program} (w : World) (dT sT ty elem : TypeId) (sz : Nat) (d a : Option Addr) (dLen dCap sLen sCap : Nat) (hu : P.underlying dT = some (.slice elem)) (hs : (P.info? elem).map (·.size) = some sz) (hn : Nat.min sLen dLen = 0) :
    (Builtin.copy_ #[dT, sT] ty #[.slice d dLen dCap, .slice a sLen sCap]).run P w = .ok (goInt 0) w := by
  cases hq : P.info? elem with
  | none => simp [hq] at hs
  | some i =>
    have hl : ∀ (x : Addr), (loadCells x 0).run P w = .ok #[] w := fun x => by simpa using run_loadCells_list (P := P) w x [] (by simp)
    cases d <;> cases a <;> simp [Builtin.copy_, run_underlying hu, Builtin.lenOf, Builtin.firstCells, sizeOf, typeInfo, hq, hn, storeCells, hl]

/-- A row with room made for one at p. -/
def room (out : List Chg) (z : Chg) (p : Nat) : List Chg := (out ++ [z]).take (p + 1) ++ out.drop p
theorem room_len (out : List Chg) (z : Chg) (p : Nat) (hp : p ≤ out.length) : (room out z p).length = out.length + 1 := by
  unfold room; rw [List.length_append, List.length_take, List.length_drop, List.length_append, List.length_singleton]; omega
theorem room_set (out : List Chg) (z c : Chg) (p : Nat) (hp : p ≤ out.length) : (room out z p).set p c = ins out p c := by
  have hl : ((out ++ [z]).take (p + 1)).length = p + 1 := by rw [List.length_take, List.length_append, List.length_singleton]; omega
  have e : ∃ y, (out ++ [z]).take (p + 1) = out.take p ++ [y] := by
    have hlen : p < (out ++ [z]).length := by simp; omega
    exact ⟨(out ++ [z])[p], by rw [List.take_succ_eq_append_getElem hlen, List.take_append_of_le_length hp]⟩
  obtain ⟨y, e⟩ := e
  have h2 : (out.take p).length = p := by rw [List.length_take]; omega
  unfold room ins
  rw [e, List.append_assoc, List.set_append_right _ _ (by omega), h2, Nat.sub_self]
  rfl
theorem step_room {P : Program} {w : World} {ops : Array Oper} {o : Oper} {a : Act} {K : Act → World → Prop} {Q : Exit → Act → World → Prop} {E : Prop} (hgd : o.guard = none) (d s : Operand) (dT sT : TypeId)
    (ho : o.op = .call { callee := .builtin .copy, args := #[d, s], argTypes := #[dT, sT] }) (elem : TypeId) (hu : P.underlying dT = some (.slice elem)) (hsz : (P.info? elem).map (·.size) = some 4)
    (W0 : World) (g n cap p : Nat) (out : List Chg) (z : Chg) (hG : OwnG W0 (.slice (some ⟨g, 0, none⟩) (n + 1) cap) (out ++ [z]) w) (hn : out.length = n) (hp : p ≤ n)
    (dL dC sL sC : Nat) (hd : a.eval d = .slice (from' (some ⟨g, 0, none⟩) cap (p + 1)) dL dC) (hs : a.eval s = .slice (from' (some ⟨g, 0, none⟩) cap p) sL sC) (hL1 : dL = n - p) (hL2 : sL = n + 1 - p)
    (h : ∀ w', OwnG W0 (.slice (some ⟨g, 0, none⟩) (n + 1) cap) (room out z p) w' → Only g w w' → K (a.put o.dst (goInt (Nat.min sL dL))) w') :
    if Region.wanted o (yielded ops a.tmps) = true then Oper.wp P o a w K Q else E := by
  have hw : Region.wanted o (yielded ops a.tmps) = true := by simp [Region.wanted, hgd]
  rw [if_pos hw]
  have hlen : (out ++ [z]).length = n + 1 := by rw [List.length_append, List.length_singleton, hn]
  have hr := hG.row
  rw [hlen] at hr
  have hmin : Nat.min sL dL = n - p := by
    have : Nat.min sL dL = dL := Nat.min_eq_right (by omega)
    omega
  rcases Nat.eq_or_lt_of_le hp with e | hlt
  · subst e
    have hrun := run_copy_none_w (P := P) w dT sT o.type elem 4 (from' (some ⟨g, 0, none⟩) cap (p + 1)) (from' (some ⟨g, 0, none⟩) cap p) dL dC sL sC hu hsz (by rw [hmin]; omega)
    unfold Oper.wp
    simp [execOp, ho, resolve, invoke, builtin, hd, hs, hrun, Result.andThen]
    have e2 : room out z p = out ++ [z] := by
      unfold room
      rw [List.take_of_length_le (by rw [hlen]; exact Nat.le_refl _), List.drop_eq_nil_of_le (by omega), List.append_nil]
    have := h w (by rw [e2]; exact hG) (Only.refl _ _)
    rw [hmin, Nat.sub_self] at this
    exact this
  · rcases hr.2 with ⟨h', _⟩ | ⟨g', cap', cur, h', hb, hg, hnc, hcm, hcs, htk⟩
    · cases h'
    · injection h' with e1 e2 e3
      injection e1 with e1
      injection e1 with e1 _
      subst e1 e3
      have c1 : ¬ cap = p + 1 := by omega
      have c2 : ¬ cap = p := by omega
      have f1 : from' (some ⟨g, 0, none⟩) cap (p + 1) = some ⟨g, (p + 1) * 4, none⟩ := by unfold from'; rw [if_neg c1]; simp [Addr.add_lit]
      have f2 : from' (some ⟨g, 0, none⟩) cap p = some ⟨g, p * 4, none⟩ := by unfold from'; rw [if_neg c2]; simp [Addr.add_lit]
      rw [f1] at hd
      rw [f2] at hs
      have hcl : (fl (out.drop p)).length = (n - p) * 4 := by rw [fl_len, List.length_drop, hn]
      have hrun := run_copy_row_w (P := P) w dT sT o.type elem 4 g ((p + 1) * 4) dL dC ⟨g, p * 4, none⟩ sL sC cur 42 (fl (out.drop p)) hu hsz hg (by rw [hmin, hcl])
        (fun j v hj => by
          have hj2 : j < (n - p) * 4 := by rw [← hcl]; exact (List.getElem?_eq_some_iff.1 hj).1
          have c := hr.cellAt (p * 4 + j) (by omega)
          rw [Addr.add_lit, c, ← hj, ← fl_drop, List.getElem?_drop, fl_app, List.getElem?_append_left (by rw [fl_len, hn]; omega)])
        (by rw [hcl, hcs]; omega) (fl_one _)
      obtain ⟨q, hq⟩ : ∃ q, Nat.min sL dL = q := ⟨_, rfl⟩
      rw [hq] at hrun h
      have hX : (cur.toList.take ((p + 1) * 4) ++ fl (out.drop p) ++ cur.toList.drop ((p + 1) * 4 + (fl (out.drop p)).length)).take ((n + 1) * 4) = fl (room out z p) := by
        have h1 : (cur.toList.take ((p + 1) * 4)).length = (p + 1) * 4 := by rw [List.length_take, Array.length_toList, hcs]; omega
        have h2 : (cur.toList.take ((p + 1) * 4) ++ fl (out.drop p)).length = (n + 1) * 4 := by rw [List.length_append, h1, hcl]; omega
        rw [List.take_append_of_le_length (by omega), List.take_of_length_le (by omega)]
        unfold room
        rw [fl_app, ← fl_take, ← htk, List.take_take, show min ((p + 1) * 4) ((n + 1) * 4) = (p + 1) * 4 by omega]
      have hrl : (room out z p).length = n + 1 := by rw [room_len _ _ _ (by omega), hn]
      have K1 := h (w.setRow g (cur.toList.take ((p + 1) * 4) ++ fl (out.drop p) ++ cur.toList.drop ((p + 1) * 4 + (fl (out.drop p)).length)).toArray)
        ⟨⟨by rw [fl_len], .inr ⟨g, cap, _, by rw [hrl], hb, setRow_heap w g cur _ 42 _ hg, by rw [hrl]; omega, hcm, by
          have h1 : (cur.toList.take ((p + 1) * 4)).length = (p + 1) * 4 := by rw [List.length_take, Array.length_toList, hcs]; omega
          simp only [List.size_toArray, List.length_append, List.length_drop, Array.length_toList, h1, hcl, hcs]; omega, by rw [hrl]; exact hX⟩⟩, below_setRow hG.below hb _⟩
        ⟨rfl, rfl, rfl, by simp [World.setRow], fun k _ hk => setRow_other w g k _ hk⟩
      generalize w.setRow g (cur.toList.take ((p + 1) * 4) ++ fl (out.drop p) ++ cur.toList.drop ((p + 1) * 4 + (fl (out.drop p)).length)).toArray = W' at hrun K1
      unfold Oper.wp
      simp [execOp, ho, resolve, invoke, builtin, hd, hs, hrun, Result.andThen]
      exact K1
/-- The store of the one more. -/
theorem OwnG.put {w0 W : World} {g n cap p : Nat} {out : List Chg} {z : Chg} (h : OwnG w0 (.slice (some ⟨g, 0, none⟩) (n + 1) cap) (room out z p) W) (hn : out.length = n) (hp : p ≤ n) (c : Chg) :
    OwnG w0 (.slice (some ⟨g, 0, none⟩) (n + 1) cap) (ins out p c) ((((W.setCell ⟨g, p * 4, none⟩ (.int .i64 c.fr)).setCell ⟨g, p * 4 + 1, none⟩ (.int .i64 c.kn)).setCell ⟨g, p * 4 + 2, none⟩ (.int .i64 c.va)).setCell ⟨g, p * 4 + 3, none⟩ (.bool c.de)) := by
  have hrl : (room out z p).length = n + 1 := by rw [room_len _ _ _ (by omega), hn]
  have hr := h.row
  rw [hrl] at hr
  have hg := (hr.lt g (by simp [Value.ownBlock])).1
  have s := ((((hr.stored (p * 4) (.int .i64 c.fr)).1.stored (p * 4 + 1) (.int .i64 c.kn)).1.stored (p * 4 + 2) (.int .i64 c.va)).1.stored (p * 4 + 3) (.bool c.de)).1
  rw [fl_set _ _ _ (by omega), room_set _ _ _ _ (by omega)] at s
  refine ⟨?_, (((h.below.setCell hg _).setCell hg _).setCell hg _).setCell hg _⟩
  rw [length_ins _ _ _ (by omega), hn]
  exact s
/-- Its cells, ahead of the store. -/
theorem OwnG.cells {w0 W : World} {g n cap p : Nat} {l : List Chg} (h : OwnG w0 (.slice (some ⟨g, 0, none⟩) n cap) l W) (hn : l.length = n) (hp : p < n) : At4 W ⟨g, p * 4, none⟩ l[p]! ∧ ∀ j, W.frozen? ⟨g, j, none⟩ = false := by
  have hr := h.row
  rw [hn] at hr
  obtain ⟨r, _, _, _⟩ := own_row hr hn
  have := r.cell p (by simpa [hn] using hp)
  exact ⟨by simpa using this, fun j => hr.frozenAt j⟩
end Go.Proofs.Ytdpgmjmmnjbbiaa.Tl
