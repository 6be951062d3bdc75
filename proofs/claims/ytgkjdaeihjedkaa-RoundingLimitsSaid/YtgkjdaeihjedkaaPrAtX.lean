/-
  append(l[1:], x): of a row of the call's own, one element of one cell. Condition: the row holds at least one element.
-/
import Derived.Test.YtgkjdaeihjedkaaPrSanX
import Derived.Test.YtgkjdaeihjedkaaPrBoX
import Derived.OwnWalk
import Derived.Maps.AppendAt
namespace Go.Proofs.Ytgkjdaeihjedkaa
open Go Go.RowKit Go.Lib Go.Sort Go.Shelf Go.Proofs
set_option linter.unusedVariables false
variable {P : Program}

theorem run_append_room1 (w : World) (t ty e : TypeId) (i : TypeInfo) (ht : P.underlying t = some (.slice e)) (hi : P.info? e = some i) (his : i.size = 1)
    (g o sLen sCap : Nat) (cur : Array Value) (hg : w.heap[g]? = some (.cells cur e (0, 0)))
    (a : Addr) (c : Nat) (u : Value) (hu : w.cell? a = some u) (h1 : u.oneCell' = true) (hroom : sLen + 1 ≤ sCap) (hfit : o + sLen + 1 ≤ cur.size) :
    (Builtin.append_ #[t, t] ty #[.slice (some ⟨g, o, none⟩) sLen sCap, .slice (some a) 1 c]).run P w =
      .ok (.slice (some ⟨g, o, none⟩) (sLen + 1) sCap) (w.setRow g (cur.toList.take (o + sLen) ++ [u] ++ cur.toList.drop (o + sLen + 1)).toArray) := by
  have hf := run_firstCells_some (P := P) w 1 1 a 1 c [u] rfl (fun j v hj => by
    match j, hj with
    | 0, hj => simp at hj; subst hj; simpa [Addr.add] using hu)
  have hst := run_storeCells_at P g (o + sLen) e [u] 0 cur w hg (by simpa using hfit) (fun v hv => by simp at hv; subst hv; exact h1)
  simp only [Nat.add_zero, List.length_cons, List.length_nil, Nat.zero_add] at hst
  simp [Builtin.append_, run_underlying ht, sizeOf, typeInfo, hi, Builtin.lenOf, hroom, Addr.add_lit, his]
  simp only [List.cons_append, List.append_assoc, List.nil_append] at hst ⊢
  simp [hf, hst]

theorem run_append_rest (w : World) (base : Nat) (t ty e : TypeId) (i : TypeInfo) (z : Value) (ht : P.underlying t = some (.slice e)) (hi : P.info? e = some i) (hz : i.zero = some z) (his : i.size = 1) (hby : i.bytes = 8) (hzs : z.cells.size = 1)
    (g n cap : Nat) (y : Value) (ys : List Value) (hown : w.ownsRow base e 1 (.slice (some ⟨g, 0, none⟩) (n + 1) cap) (n + 1) (y :: ys))
    (a : Addr) (c : Nat) (u : Value) (hu : w.cell? a = some u) (h1 : u.oneCell' = true) (hn : n ≤ 1000000) (hbase : base ≤ w.heap.size) :
    ∃ x cap' w', (Builtin.append_ #[t, t] ty #[.slice (some ⟨g, 1, none⟩) n (cap - 1), .slice (some a) 1 c]).run P w = .ok (.slice (some x) (n + 1) cap') w' ∧
      (∀ j v, (ys ++ [u])[j]? = some v → w'.cell? (x.add j) = some v) ∧ base ≤ x.block ∧ x.block < w'.heap.size ∧ w.grownBy w' (some g) ∧ n + 1 ≤ cap' ∧ cap' ≤ maxLen := by
  have hlen : ys.length = n := by have := hown.1; simpa using this
  rcases hown.2 with ⟨h0, _⟩ | ⟨g', cap', cur, hv, hbg, hg, hnc, hcm, hcs, htake⟩
  · cases h0
  · cases hv
    have hgl : g < w.heap.size := (Array.getElem?_eq_some_iff.1 hg).1
    have hcells : ∀ j v, ys[j]? = some v → w.cell? ((⟨g, 1, none⟩ : Addr).add j) = some v := by
      intro j v hj
      have h := hown.cells (g := g) rfl (j + 1) v (by simpa using hj)
      rw [add_flat] at h ⊢
      rw [show 1 + j = 0 + (j + 1) by omega]
      exact h
    by_cases hroom : n + 1 ≤ cap - 1
    · have hr := run_append_room1 (P := P) w t ty e i ht hi his g 1 n (cap - 1) cur hg a c u hu h1 hroom (by omega)
      refine ⟨_, _, _, hr, ?_, hbg, ?_, ⟨rfl, rfl, rfl, by simp [World.setRow], fun k _ hk => setRow_other w g k _ (fun e => hk (by simp [e]))⟩, hroom, by omega⟩
      · intro j v hj
        have hjl : j < n + 1 := by
          have := (List.getElem?_eq_some_iff.1 hj).1
          simpa [hlen] using this
        rw [add_flat, cell_setRow_same w g _ cur _ e _ hg]
        rcases Nat.lt_or_ge j n with h | h
        · have hj' : ys[j]? = some v := by rwa [List.getElem?_append_left (by omega)] at hj
          have hc := hcells j v hj'
          rw [add_flat, cell_of_row w g _ cur e _ hg] at hc
          rw [List.getElem?_toArray, List.append_assoc, List.getElem?_append_left (by simp; omega), List.getElem?_take_of_lt (by omega)]
          simpa using hc
        · obtain rfl : j = n := by omega
          have hj' : v = u := by
            rw [List.getElem?_append_right (by omega)] at hj
            simpa [hlen, eq_comm] using hj
          subst hj'
          rw [List.getElem?_toArray, List.append_assoc, List.getElem?_append_right (by simp; omega)]
          have e : 1 + j - (List.take (1 + j) cur.toList).length = 0 := by simp; omega
          rw [e]
          rfl
      · simpa [World.setRow] using hgl
    · have hr := run_append_grow (P := P) w t ty e i z ht hi hz ⟨g, 1, none⟩ n (cap - 1) ys (by rw [hlen, his, Nat.mul_one]) hcells a 1 c [u] (by simp [his]) (fun j v hj => by
        match j, hj with
        | 0, hj => simp at hj; subst hj; simpa [Addr.add] using hu) (by omega) (by omega) (growslice_fits (by omega) (by rw [hby]; omega))
      refine ⟨_, _, _, hr, ?_, hbase, by simp, ⟨rfl, rfl, rfl, by simp, fun k hk _ => heap_alloc_old w.drew _ hk⟩, grownCap_ge w (n + 1) (cap - 1) e, grownCap_le_maxLen w (n + 1) (cap - 1) e (by unfold maxLen; omega)⟩
      intro j v hj
      rw [add_flat, Nat.zero_add]
      have hjl : j < ys.length + 1 := by
        have := (List.getElem?_eq_some_iff.1 hj).1
        simpa using this
      have hc := cell_of_row (w.drew.alloc (.cells (ys.toArray ++ #[u] ++ Builtin.zeroCells z.cells (grownCap w (n + 1) (cap - 1) e - (n + 1))) e)) w.heap.size j _ e (0, 0) (heap_alloc_new w.drew _)
      rw [show ([u].toArray : Array Value) = #[u] from rfl, hc, Array.getElem?_append_left (by simp; omega)]
      simpa using hj

/-- AT THE OPERATION, for the walk. -/
theorem wpList_append_rest {ops : Array Oper} {rest : List Oper} {o : Oper} {ac : Act} {Q : Exit → Act → World → Prop} (w : World) (hgd : o.guard = none) (s x : Operand) (t : TypeId)
    (ho : o.op = .call { callee := .builtin .append, args := #[s, x], argTypes := #[t, t] })
    (base : Nat) (e : TypeId) (i : TypeInfo) (z : Value) (ht : P.underlying t = some (.slice e)) (hi : P.info? e = some i) (hz : i.zero = some z) (his : i.size = 1) (hby : i.bytes = 8) (hzs : z.cells.size = 1)
    (g n cap cs : Nat) (y : Value) (ys : List Value) (hcs : cs = cap - 1) (hs : ac.eval s = .slice (some ⟨g, 1, none⟩) n cs) (hown : w.ownsRow base e 1 (.slice (some ⟨g, 0, none⟩) (n + 1) cap) (n + 1) (y :: ys))
    (a : Addr) (c : Nat) (u : Value) (hx : ac.eval x = .slice (some a) 1 c) (hu : w.cell? a = some u) (h1 : u.oneCell' = true) (hn : n ≤ 1000000) (hbase : base ≤ w.heap.size)
    (h : ∀ x' cap' w', (∀ j v, (ys ++ [u])[j]? = some v → w'.cell? (x'.add j) = some v) → base ≤ x'.block → x'.block < w'.heap.size → w.grownBy w' (some g) → n + 1 ≤ cap' → cap' ≤ maxLen → wpList P ops Q rest (ac.put o.dst (.slice (some x') (n + 1) cap')) w') :
    wpList P ops Q (o :: rest) ac w := by
  subst hcs
  refine wpList_plain hgd fun K hK => ?_
  obtain ⟨x', cap', w', hr, h2, h3, h4, h5, h6, h7⟩ := run_append_rest (P := P) w base t o.type e i z ht hi hz his hby hzs g n cap y ys hown a c u hu h1 hn hbase
  unfold Oper.wp execOp
  simp only [ho, resolve, invoke, builtin, Sem.run_bind, Sem.run_pure, Result.andThen_ok, List.map_toArray, List.map_cons, List.map_nil, hs, hx, hr]
  exact hK _ _ (h x' cap' w' h2 h3 h4 h5 h6 h7)
end Go.Proofs.Ytgkjdaeihjedkaa
