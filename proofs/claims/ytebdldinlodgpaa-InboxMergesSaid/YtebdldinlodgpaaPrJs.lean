/-
  The generator of inputs: the contract of Events: whatever the tape holds, a list of valid events of its own. Condition: the tape's block reads as a tape.
-/
import Derived.Test.YtebdldinlodgpaaPrJk
import Derived.Test.YtebdldinlodgpaaPrJq
namespace Go.Proofs.Ytebdldinlodgpaa.Rc
open Go Go.RowKit Go.Lib Go.Sort Go.Shelf Go.Proofs Go.Proofs.Ytebdldinlodgpaa Go.Proofs.Ytebdldinlodgpaa.Tp
set_option linter.unusedVariables false

/-- The list while it is made: the tape, the row. -/
structure EvI (w0 : World) (b : Nat) (v : Value) (es : List Ev) (W : World) : Prop where
  tape : TapeAt b W
  only : Only b w0 W
  row : W.ownsRow w0.heap.size 26 7 v es.length (es.flatMap eE)
  lt : b < w0.heap.size
theorem row_keep {W W' : World} {base n sz : Nat} {t : TypeId} {v : Value} {xs : List Value} (h : W.ownsRow base t sz v n xs) (hb : ∀ g, v.ownBlock = some g → W'.heap[g]? = W.heap[g]?) : W'.ownsRow base t sz v n xs := by
  refine ⟨h.1, ?_⟩
  rcases h.2 with h0 | ⟨g, cap, cur, rfl, h1, h2, h3⟩
  · exact .inl h0
  · exact .inr ⟨g, cap, cur, rfl, h1, (hb g rfl).trans h2, h3⟩
theorem EvI.step {w0 W W' : World} {b : Nat} {v : Value} {es : List Ev} (h : EvI w0 b v es W) (hT : TapeAt b W') (hO : Only b W W') : EvI w0 b v es W' :=
  ⟨hT, h.only.trans hO, row_keep h.row fun g hg => hO.block g (h.row.lt g hg).2 (by have := (h.row.lt g hg).1; have := h.lt; omega), h.lt⟩
theorem EvI.alloc {w0 W : World} {b : Nat} {v : Value} {es : List Ev} (h : EvI w0 b v es W) (o : Obj) : EvI w0 b v es (W.alloc o) :=
  ⟨h.tape.alloc o, h.only.alloc o, row_keep h.row fun g hg => Below.heap_alloc W o g (h.row.lt g hg).2, h.lt⟩
/-- A tape, where only a row of the call's own has grown. -/
theorem tape_grown {W W' : World} {b B : Nat} {row : Option Nat} (h : TapeAt b W) (hg : W.grownBy W' row) (hr : ∀ k, row = some k → B ≤ k) (hb : b < B) : TapeAt b W' := by
  obtain ⟨a, len, cap, zs, k, t1, t2, t3, t4, t5, t6⟩ := h
  have fb : ∀ q : Addr, q.block ≤ b → ∀ u, W.cell? q = some u → W'.cell? q = some u := fun q hq u hu =>
    (World.cell?_of_block (hg.block q.block (World.block_lt_of_cell? W q hu) (fun e => by have := hr _ e.symm; omega))).trans hu
  refine ⟨a, len, cap, zs, k, fb _ (Nat.le_refl _) _ t1, fb _ (Nat.le_refl _) _ t2, (World.frozen?_of_block (hg.block b (World.block_lt_of_cell? W _ t2) (fun e => by have := hr _ e.symm; omega))).trans t3, t4, t5, ?_⟩
  rcases t6 with t6 | ⟨x, ha, hx, hc⟩
  · exact .inl t6
  · exact .inr ⟨x, ha, hx, fun i hi => ⟨fb _ (by rw [add_block]; omega) _ (hc i hi).1, (hc i hi).2⟩⟩
theorem EvI.grown {w0 W W' : World} {b : Nat} {v v' : Value} {es : List Ev} {e : Ev} (h : EvI w0 b v es W) (ho : W'.ownsRow w0.heap.size 26 7 v' (es.length + 1) (es.flatMap eE ++ eE e)) (hg : W.grownBy W' v.ownBlock) : EvI w0 b v' (es ++ [e]) W' := by
  have hlt := h.lt
  refine ⟨tape_grown h.tape hg (fun k hk => (h.row.lt k hk).1) hlt, ?_, by rw [List.length_append, List.flatMap_append]; simpa using ho, hlt⟩
  exact ⟨hg.os.trans h.only.os, hg.tape.trans h.only.tape, hg.output.trans h.only.output, Nat.le_trans h.only.size hg.size, fun k hk hn =>
      (hg.block k (Nat.lt_of_lt_of_le hk h.only.size) (fun e => by have := (h.row.lt k e.symm).1; omega)).trans (h.only.block k hk hn)⟩
theorem EvI.own {w0 W : World} {b : Nat} {v : Value} {es : List Ev} (h : EvI w0 b v es W) (hw : Below w0.heap.size w0 w0) : ERow W v es := by
  have hl := h.row
  rcases hl.2 with ⟨e, h0⟩ | ⟨g, cap, cur, e, h1, h2, h3, h4, _⟩
  · have : es = [] := List.length_eq_zero_iff.1 h0
    subst this
    exact ⟨none, 0, e, fun h => absurd h (by decide)⟩
  · subst e
    refine ⟨_, cap, rfl, fun hn => ⟨g, rfl, fun i hi => ?_⟩⟩
    have k : ∀ j, j < 7 → ∀ u, (eE es[i]!)[j]? = some u → W.cell? ⟨g, i * 7 + j, none⟩ = some u := fun j hj u hu => by
      have := hl.cells (g := g) rfl (i * 7 + j) u (by rw [fE_get es i j hi hj]; exact hu)
      rwa [show (⟨g, 0, none⟩ : Addr).add (i * 7 + j) = ⟨g, i * 7 + j, none⟩ by rw [Addr.add_lit, Nat.zero_add]] at this
    exact ⟨k 0 (by decide) _ rfl, k 1 (by decide) _ rfl, k 2 (by decide) _ rfl, k 3 (by decide) _ rfl, k 4 (by decide) _ rfl, k 5 (by decide) _ rfl, k 6 (by decide) _ rfl⟩
theorem EvI.at {w0 W : World} {b g n cap : Nat} {es : List Ev} (h : EvI w0 b (.slice (some ⟨g, 0, none⟩) n cap) es W) {i : Nat} (hi : i < es.length) : At7 W g (i * 7) es[i]! := by
  have k : ∀ j, j < 7 → ∀ u, (eE es[i]!)[j]? = some u → W.cell? ⟨g, i * 7 + j, none⟩ = some u := fun j hj u hu => by
    have := h.row.cells (g := g) rfl (i * 7 + j) u (by rw [fE_get es i j hi hj]; exact hu)
    rwa [show (⟨g, 0, none⟩ : Addr).add (i * 7 + j) = ⟨g, i * 7 + j, none⟩ by rw [Addr.add_lit, Nat.zero_add]] at this
  exact ⟨k 0 (by decide) _ rfl, k 1 (by decide) _ rfl, k 2 (by decide) _ rfl, k 3 (by decide) _ rfl, k 4 (by decide) _ rfl, k 5 (by decide) _ rfl, k 6 (by decide) _ rfl⟩
def EsR (b n : Nat) (w : World) (r : Ending) (w' : World) : Prop := ∃ v es, r = .returned v ∧ ERow w' v es ∧ es.length ≤ n ∧ (∀ e ∈ es, okE e = true) ∧ TapeAt b w' ∧ Only b w w'

set_option maxRecDepth 100000 in
set_option maxHeartbeats 8000000 in
theorem events_any (b n : Nat) (hn : n ≤ 100) (w : World) (h : TapeAt b w) :
    Calls Try.prog 28 #[.pointer (some ⟨b, 0, none⟩), .int .i64 n] w (EsR b n w) := by
  obtain ⟨i0, hi0, hz0, hz1, hz2⟩ := infoEv
  have HQ := Lib.hid (And.intro hi0 (And.intro hz0 (And.intro hz1 hz2)))
  have hlt := h.lt
  go_enter Try.func28, Try.ntmps28
  go_wp2_with fail
  refine (next_any b ((n : Int) + 1) (by omega) (by omega) _ h).mono ?_
  rintro e w1 ⟨m, rfl, m0, m1, T1, O1⟩
  obtain ⟨m, rfl⟩ := Int.eq_ofNat_of_zero_le m0
  have HI0 := Lib.hid (show EvI w b (.slice none 0 0) [] w1 from ⟨T1, O1, World.ownsRow_nil _ _ _ _, hlt⟩)
  clear T1 O1 h m0 hi0 hz0 hz1 hz2
  go_wp2_with fail
  go_loopw [5, 6] (fun v z wr => ∃ (i : Nat) (es : List Ev), z = .int .i64 i ∧ Hid (es.length + i ≤ n) ∧ Hid (EvI w b v es wr) ∧ Hid (∀ e ∈ es, okE e = true)) (fun _ z _ => (intOf z).toNat)
  case atStart => exact ⟨m, [], rfl, Lib.hid (by simp; omega), HI0, Lib.hid (by simp)⟩
  case round =>
    clear HI0
    obtain ⟨i, es, rfl, hle, HI, HC⟩ := hrel
    by_cases hpos : 0 < i
    · have t0 : decide ((0 : Int) < (i : Int)) = true := decide_eq_true (by omega)
      obtain ⟨I, hI⟩ : ∃ I, I = i - 1 := ⟨_, rfl⟩
      have wi : IntKind.i64.wrap ((i : Int) - 1) = (I : Int) := by have := hle.out; rw [IntKind.wrap_i64]; omega
      have wi2 : (i : Int) - 1 = (I : Int) := by omega
      have hI3 : I < i := by omega
      have HLE : Hid (es.length + 1 + I ≤ n) := Lib.hid (by have := hle.out; omega)
      clear hI
      have FM : (∃ A C, u5 = .slice A 0 C ∧ es = []) ∨ ∃ g cap, u5 = .slice (some ⟨g, 0, none⟩) es.length cap ∧ 0 < es.length ∧ w.heap.size ≤ g := by
        rcases HI.out.row.2 with ⟨e, h0⟩ | ⟨g, cap, cur, e, h1, _⟩
        · exact .inl ⟨none, 0, e, List.length_eq_zero_iff.1 h0⟩
        · rcases Nat.eq_zero_or_pos es.length with h0 | h0
          · exact .inl ⟨_, cap, by rw [e, h0], List.length_eq_zero_iff.1 h0⟩
          · exact .inr ⟨g, cap, e, h0, h1⟩
      rcases FM with ⟨A, C, rfl, rfl⟩ | ⟨g, cap, rfl, hpe, hge⟩
      · go_upto_region 7 with fail
        go_wp2_with fail
        refine (gevent_any b _ HI.out.tape).mono ?_
        rintro r w5 ⟨e, rfl, oke, T5, O5⟩
        have HI5 := Lib.hid (HI.out.step T5 O5)
        have HC5 : Hid (∀ x ∈ ([] : List Ev) ++ [e], okE x = true) := Lib.hid fun x hx => by
          rcases List.mem_append.1 hx with h1 | h1
          · exact HC.out x h1
          · rw [List.mem_singleton] at h1; subst h1; exact oke
        clear T5 O5 oke HI
        obtain ⟨kt, ks, em, ti, ki, tt, ts⟩ := e
        unfold vE
        simp only
        have HI6 := Lib.hid (HI5.out.alloc (.cells #[.int .i64 kt, .int .i64 ks, .int .i64 em, .int .i64 ti, .int .i64 ki, .int .i64 tt, .int .i64 ts] 26))
        clear HI5
        have le1 := HLE.out
        go_wp2_with (at_builtin; refine wpList_append_own _ rfl _ _ 44 rfl w.heap.size 26 i0 (.agg #[.int .i64 0, .int .i64 0, .int .i64 0, .int .i64 0, .int .i64 0, .int .i64 0, .int .i64 0]) 7 56 Try.underlying44 HQ.out.1 HQ.out.2.1 HQ.out.2.2.1 HQ.out.2.2.2 rfl (by decide) _ _ _ rfl HI6.out.row ⟨w5.heap.size, 0, none⟩ 1 1 [.int .i64 kt, .int .i64 ks, .int .i64 em, .int .i64 ti, .int .i64 ki, .int .i64 tt, .int .i64 ts] rfl rfl (seven_new _ _ _ _ _ _ _ _ _) ?p2 ?p3 ?p4 HI6.out.only.size ?_)
        case p2 => intro x hx; simp at hx; rcases hx with rfl | rfl | rfl | rfl | rfl | rfl | rfl <;> rfl
        case p3 => unfold maxLen; omega
        case p4 => omega
        intro v7 w7 hown hgrow _
        have HI7 := Lib.hid (HI6.out.grown (e := ⟨kt, ks, em, ti, ki, tt, ts⟩) (by simpa [eE] using hown) hgrow)
        clear hown hgrow HI6
        go_wp2_with fail
        go_roundw
        case rel => exact ⟨I, _, by go_num, Lib.hid (by simp; omega), HI7, HC5⟩
        case measure => simp [intOf]; omega
      · have t1 : decide ((0 : Int) < (es.length : Int)) = true := decide_eq_true (by omega)
        generalize hN : es.length = N at *
        have HN := Lib.hid hN
        clear hN
        go_wp2_with fail
        refine (next_any b 8 (by omega) (by omega) _ HI.out.tape).mono ?_
        rintro e w2 ⟨q, rfl, q0, q1, T2, O2⟩
        have HI2 := Lib.hid (HI.out.step T2 O2)
        clear T2 O2 HI
        by_cases q7 : q = 7
        · subst q7
          go_wp2_with fail
          refine (next_any b N (by omega) (by have := HLE.out; omega) _ HI2.out.tape).mono ?_
          rintro r w3 ⟨j, rfl, j0, j1, T3, O3⟩
          have HI3 := Lib.hid (HI2.out.step T3 O3)
          clear T3 O3 HI2
          obtain ⟨j, rfl⟩ := Int.eq_ofNat_of_zero_le j0
          have jl : j < N := by omega
          have AT := Lib.hid (HI3.out.at (i := j) (by have := HN.out; omega))
          have OKJ : okE es[j]! = true := HC.out _ (by rw [getElem!_pos es j (by have := HN.out; omega)]; exact List.getElem_mem _)
          have HC5 : Hid (∀ x ∈ es ++ [es[j]!], okE x = true) := Lib.hid fun x hx => by
            rcases List.mem_append.1 hx with h1 | h1
            · exact HC.out x h1
            · rw [List.mem_singleton] at h1; subst h1; exact OKJ
          clear OKJ
          have at7 := AT.out
          generalize es[j]! = e at *
          obtain ⟨kt, ks, em, ti, ki, tt, ts⟩ := e
          have HI6 := Lib.hid (HI3.out.alloc (.cells #[.int .i64 kt, .int .i64 ks, .int .i64 em, .int .i64 ti, .int .i64 ki, .int .i64 tt, .int .i64 ts] 26))
          clear HI3 AT
          obtain ⟨x0, x1, x2, x3, x4, x5, x6⟩ := at7
          simp only at x0 x1 x2 x3 x4 x5 x6
          have le1 := HLE.out
          go_wp2_with (at_builtin; refine wpList_append_own _ rfl _ _ 44 rfl w.heap.size 26 i0 (.agg #[.int .i64 0, .int .i64 0, .int .i64 0, .int .i64 0, .int .i64 0, .int .i64 0, .int .i64 0]) 7 56 Try.underlying44 HQ.out.1 HQ.out.2.1 HQ.out.2.2.1 HQ.out.2.2.2 rfl (by decide) _ _ _ rfl HI6.out.row ⟨w3.heap.size, 0, none⟩ 1 1 [.int .i64 kt, .int .i64 ks, .int .i64 em, .int .i64 ti, .int .i64 ki, .int .i64 tt, .int .i64 ts] rfl rfl (seven_new _ _ _ _ _ _ _ _ _) ?s2 ?s3 ?s4 HI6.out.only.size ?_)
          case s2 => intro x hx; simp at hx; rcases hx with rfl | rfl | rfl | rfl | rfl | rfl | rfl <;> rfl
          case s3 => have := HN.out; unfold maxLen; omega
          case s4 => have := HN.out; omega
          intro v7 w7 hown hgrow _
          have HI7 := Lib.hid (HI6.out.grown (e := ⟨kt, ks, em, ti, ki, tt, ts⟩) hown hgrow)
          clear hown hgrow HI6 x0 x1 x2 x3 x4 x5 x6
          go_wp2_with fail
          go_roundw
          case rel => exact ⟨I, _, by go_num, Lib.hid (by have := HN.out; simp; omega), HI7, HC5⟩
          case measure => simp [intOf]; omega
        · have t7 : (q == 7) = false := by simpa using q7
          go_upto_region 7 with fail
          go_wp2_with fail
          refine (gevent_any b _ HI2.out.tape).mono ?_
          rintro r w5 ⟨e, rfl, oke, T5, O5⟩
          have HI5 := Lib.hid (HI2.out.step T5 O5)
          have HC5 : Hid (∀ x ∈ es ++ [e], okE x = true) := Lib.hid fun x hx => by
            rcases List.mem_append.1 hx with h1 | h1
            · exact HC.out x h1
            · rw [List.mem_singleton] at h1; subst h1; exact oke
          clear T5 O5 oke HI2
          obtain ⟨kt, ks, em, ti, ki, tt, ts⟩ := e
          unfold vE
          simp only
          have HI6 := Lib.hid (HI5.out.alloc (.cells #[.int .i64 kt, .int .i64 ks, .int .i64 em, .int .i64 ti, .int .i64 ki, .int .i64 tt, .int .i64 ts] 26))
          clear HI5
          have le1 := HLE.out
          go_wp2_with (at_builtin; refine wpList_append_own _ rfl _ _ 44 rfl w.heap.size 26 i0 (.agg #[.int .i64 0, .int .i64 0, .int .i64 0, .int .i64 0, .int .i64 0, .int .i64 0, .int .i64 0]) 7 56 Try.underlying44 HQ.out.1 HQ.out.2.1 HQ.out.2.2.1 HQ.out.2.2.2 rfl (by decide) _ _ _ rfl HI6.out.row ⟨w5.heap.size, 0, none⟩ 1 1 [.int .i64 kt, .int .i64 ks, .int .i64 em, .int .i64 ti, .int .i64 ki, .int .i64 tt, .int .i64 ts] rfl rfl (seven_new _ _ _ _ _ _ _ _ _) ?r2 ?r3 ?r4 HI6.out.only.size ?_)
          case r2 => intro x hx; simp at hx; rcases hx with rfl | rfl | rfl | rfl | rfl | rfl | rfl <;> rfl
          case r3 => have := HN.out; unfold maxLen; omega
          case r4 => have := HN.out; omega
          intro v7 w7 hown hgrow _
          have HI7 := Lib.hid (HI6.out.grown (e := ⟨kt, ks, em, ti, ki, tt, ts⟩) hown hgrow)
          clear hown hgrow HI6
          go_wp2_with fail
          go_roundw
          case rel => exact ⟨I, _, by go_num, Lib.hid (by have := HN.out; simp; omega), HI7, HC5⟩
          case measure => simp [intOf]; omega
    · have t0 : decide ((0 : Int) < (i : Int)) = false := decide_eq_false (by omega)
      go_wp2_with fail
      go_ret
      exact ⟨_, es, rfl, HI.out.own (Below.refl _ _), by have := hle.out; omega, HC.out, HI.out.tape, HI.out.only⟩
end Go.Proofs.Ytebdldinlodgpaa.Rc
