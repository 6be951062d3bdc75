/-
  Layer 6 (timeline): the contract of slices.Backward over changes, as an iterator: the changes from the last one to the first one. Conditions: the slice's cells hold the changes; a round keeps them.
-/
import Derived.Test.YtdpgmjmmnjbbiaaPrVf
import Derived.Test.YtdpgmjmmnjbbiaaPrZa
namespace Go.Proofs.Ytdpgmjmmnjbbiaa.Tl
open Go Go.RowKit Go.Lib Go.Proofs Go.Proofs.Ytdpgmjmmnjbbiaa Go.Proofs.Ytdpgmjmmnjbbiaa.Tp
attribute [local go_sem] Oper.semAt_some
set_option linter.unusedVariables false

/-- It lies on wherever the blocks below B lie on. -/
theorem ChgRow.kept {w w' : World} {B : Nat} {a : Option Addr} {n : Nat} {cs : List Chg} (h : ChgRow w B a n cs) (hb : ∀ k o, k < B → w.heap[k]? = some o → w'.heap[k]? = some o) : ChgRow w' B a n cs := by
  refine h.keep fun k hk hs _ => ?_
  have ho : w.heap[k]? = some w.heap[k] := Array.getElem?_eq_getElem hs
  exact (hb _ _ hk ho).trans ho.symm
/-- The changes with their places, from the last one to the first one. -/
def bkL (cs : List Chg) : List (Int × Chg) := (List.range cs.length).map fun k => (((cs.length - 1 - k : Nat) : Int), cs[cs.length - 1 - k]!)
theorem bkL_length (cs : List Chg) : (bkL cs).length = cs.length := by simp [bkL]
theorem bkL_take (cs : List Chg) (j : Nat) (h : j < cs.length) : (bkL cs).take (cs.length - (j + 1)) ++ [((j : Int), cs[j])] = (bkL cs).take (cs.length - j) := by
  have hl := bkL_length cs
  have e : cs.length - j = cs.length - (j + 1) + 1 := by omega
  rw [e, List.take_succ_eq_append_getElem (by omega)]
  congr 2
  have e2 : cs.length - 1 - (cs.length - (j + 1)) = j := by omega
  simp only [bkL, List.getElem_map, List.getElem_range, e2]
  rw [getElem!_pos cs j h]
theorem bkL_snd (cs : List Chg) : (bkL cs).map (·.2) = cs.reverse := by
  apply List.ext_getElem
  · simp [bkL]
  · intro i h1 h2
    have : i < cs.length := by simpa [bkL] using h1
    have h3 : cs.length - 1 - i < cs.length := by omega
    simp [bkL, List.getElem_reverse, h3]

def encB (x : Int × Chg) : Array Value := #[.int .i64 x.1, .agg #[.int .i64 x.2.fr, .int .i64 x.2.kn, .int .i64 x.2.va, .bool x.2.de]]

set_option maxRecDepth 100000 in
set_option maxHeartbeats 2000000 in
theorem back_iter {F : Fence} {n : Nat} (hro : F.round = none) (hd : F.depth = none) (h46 : F.fn 60) (Bs B : Nat) (a : Option Addr) (len cap : Nat) (cs : List Chg) (hlen : len ≤ 1000000) (D : Nat) (mine : Nat → Obj → Prop) (w : World)
    (hBs : Boxed w Bs 23 (.slice a len cap)) (hr : ChgRow w B a len cs) (hB : B ≤ w.heap.size)
    (hm : ∀ o, ¬ mine Bs o) (hmD : Bs ≠ D + 1) (hmB : 0 < len → ∀ o x, a = some x → ¬ mine x.block o) (hBD : B ≤ D) :
    Iter F n Try.prog 60 #[.pointer (some ⟨Bs, 0, none⟩)] encB (bkL cs) 0 D mine w := by
  intro J Jx W1 hsz hw1 hJ hJx hY h0
  have hBs1 : Boxed W1 Bs 23 (.slice a len cap) := (hw1.block Bs hBs.lt).trans hBs
  have hr1 : ChgRow W1 B a len cs := hr.below (hw1.mono hB)
  have hn := hr.1
  refine callsIn_of_wp Try.func60 rfl h46 ?_ hro
  simp only [Try.ntmps60, List.size_toArray, List.length_cons, List.length_nil, Nat.reduceAdd, Nat.reduceSub, Array.replicate_succ, Array.replicate_zero, List.push_toArray, List.append_toArray, List.nil_append, List.cons_append]
  have cB := hBs1.cell
  gi_wp2
  gi_loopw [3] (fun i wr => ∃ m : Nat, m ≤ len ∧ i = .int .i64 ((m : Int) - 1) ∧ J ((bkL cs).take (cs.length - m)) wr ∧ D + 2 ≤ wr.heap.size ∧ Boxed wr Bs 23 (.slice a len cap) ∧ ChgRow wr B a len cs)
    (fun i _ => (intOf i + 1).toNat)
  case atStart => exact ⟨len, Nat.le_refl _, rfl, by rw [hn, Nat.sub_self]; exact h0, by omega, hBs1, hr1⟩
  case round =>
    obtain ⟨m, hm1, hi, hJs, hbig, hBs2, hr2⟩ := hrel
    clear cB hBs1 hr1
    cases m with
    | zero =>
      rw [show ((0 : Nat) : Int) - 1 = -1 from rfl] at hi
      subst hi
      gi_wp2
      go_end0
      refine ⟨⟨_, rfl⟩, .inl ?_⟩
      rw [Nat.sub_zero, List.take_of_length_le (by rw [bkL_length]; exact Nat.le_refl _)] at hJs
      exact hJs
    | succ j =>
      rw [show ((j + 1 : Nat) : Int) - 1 = (j : Int) by omega] at hi
      subst hi
      obtain ⟨x, rfl, hx, hc⟩ := hr2.2 (by omega)
      have hj : j < cs.length := by omega
      obtain ⟨c0, c1, c2, c3⟩ := hc j (by omega)
      rw [getElem!_pos cs j hj] at c0 c1 c2 c3
      have hT := bkL_take cs j hj
      have hpre : (bkL cs).take (cs.length - (j + 1)) ++ [((j : Int), cs[j])] <+: bkL cs := by rw [hT]; exact List.take_prefix _ _
      obtain ⟨fn, tmps, assign, body, hy, hR⟩ := yield_depth hd (n - 1) (hY _ ((j : Int), cs[j]) wr hJs hpre (by omega))
      generalize cs[j] = c at *
      dsimp only [encB] at hy
      have cB := hBs2.cell
      have HT := Lib.hid hT
      clear hT hc hpre hn
      gi_wp2
      refine hR.mono ?_
      rintro e W3 (⟨rfl, hJ3, hk3⟩ | ⟨rfl, hJx3, hk3⟩)
      · have hB3 : Boxed W3 Bs 23 (.slice (some x) len cap) := hk3.boxed hBs2 (fun h => h.elim (hm _) hmD)
        have hr3 : ChgRow W3 B (some x) len cs := hr2.keep fun k hk hs ⟨y, hy, hyk⟩ => by
          injection hy with hy; subst hy; subst hyk
          have ho : wr.heap[x.block]? = some wr.heap[x.block] := Array.getElem?_eq_getElem hs
          exact (hk3.same _ _ ho (fun h => h.elim (hmB (by omega) _ x rfl) (by omega))).trans ho.symm
        have hs3 := hk3.size
        clear hk3 hY hy
        gi_wp2
        go_roundw
        case rel => exact ⟨j, by omega, rfl, by rw [← HT.out]; exact hJ3, by omega, hB3, hr3⟩
        case measure => simp [intOf]
      · gi_wp2
        refine bodyPost_ret (results_none rfl _ _ _) rfl ?_
        exact ⟨⟨_, rfl⟩, .inr ⟨_, by rw [HT.out]; exact List.take_prefix _ _, hJx3⟩⟩

set_option maxHeartbeats 1000000 in
theorem back_any {F : Fence} {n : Nat} (hro : F.round = none) (h45 : F.fn 37) (a : Option Addr) (len cap : Nat) (w : World) :
    CallsIn F n Try.prog 37 #[.slice a len cap] w fun e w' => e = .returned (.func (.func 60) #[] #[.pointer (some ⟨w.heap.size, 0, none⟩)]) ∧ w' = w.alloc (.cells #[.slice a len cap] 23) := by
  refine callsIn_of_wp Try.func37 rfl h45 ?_ hro
  simp only [Try.ntmps37, List.size_toArray, List.length_cons, List.length_nil, Nat.reduceAdd, Nat.reduceSub, Array.replicate_succ, Array.replicate_zero, List.push_toArray, List.append_toArray, List.nil_append, List.cons_append]
  gi_wp2
  go_ret
  exact ⟨rfl, rfl⟩
end Go.Proofs.Ytdpgmjmmnjbbiaa.Tl
