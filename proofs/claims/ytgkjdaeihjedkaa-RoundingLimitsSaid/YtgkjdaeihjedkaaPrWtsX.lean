/-
  The law's weights: a list of at most six ints within their limits, in memory of the call's own. No condition of its own.
-/
import Derived.Test.YtgkjdaeihjedkaaPrKept
import Derived.Test.YtgkjdaeihjedkaaPrDivX
import Derived.OwnWalk
namespace Go.Proofs.Ytgkjdaeihjedkaa.Tp
open Go Go.RowKit Go.Lib Go.Proofs.Ytgkjdaeihjedkaa
set_option linter.unusedVariables false

theorem TapeAt.same {b : Nat} {u v : World} (h : TapeAt b u) (e : ∀ k, k ≤ b → v.heap[k]? = u.heap[k]?) : TapeAt b v := by
  obtain ⟨a, len, cap, zs, k, h1, h2, h3, h4, h5, h6⟩ := h
  refine ⟨a, len, cap, zs, k, (World.cell?_of_block (a := ⟨b, 0, none⟩) (e _ (Nat.le_refl _))).trans h1, (World.cell?_of_block (a := ⟨b, 1, none⟩) (e _ (Nat.le_refl _))).trans h2, (World.frozen?_of_block (a := ⟨b, 1, none⟩) (e _ (Nat.le_refl _))).trans h3, h4, h5, ?_⟩
  rcases h6 with h6 | ⟨x, ha, hx, hc⟩
  · exact .inl h6
  · exact .inr ⟨x, ha, hx, fun i hi => ⟨(World.cell?_of_block (e _ (by rw [add_block]; exact Nat.le_of_lt hx))).trans (hc i hi).1, (hc i hi).2⟩⟩
theorem own_only {w w' : World} {b base : Nat} {e : TypeId} {size n : Nat} {v : Value} {xs : List Value} (h : w.ownsRow base e size v n xs) (ho : Only b w w') (hb : b < base) : w'.ownsRow base e size v n xs := by
  refine ⟨h.1, ?_⟩
  rcases h.2 with h' | ⟨g, cap, cur, h1, h2, h3, h4, h5, h6, h7⟩
  · exact .inl h'
  · refine .inr ⟨g, cap, cur, h1, h2, ?_, h4, h5, h6, h7⟩
    have hg : g < w.heap.size := by
      rcases Nat.lt_or_ge g w.heap.size with h | h
      · exact h
      · rw [Array.getElem?_eq_none h] at h3; cases h3
    exact (ho.block g hg (by omega)).trans h3
/-- Between two steps of the call: blocks below 'base' but b are as they were. -/
structure Wide (b base : Nat) (w wr : World) : Prop where
  os : wr.os = w.os
  tape : wr.tape = w.tape
  output : wr.output = w.output
  size : base ≤ wr.heap.size
  block : ∀ k, k < base → k ≠ b → wr.heap[k]? = w.heap[k]?
theorem Wide.only {b base : Nat} {w u v : World} (h : Wide b base w u) (ho : Only b u v) : Wide b base w v :=
  ⟨ho.os.trans h.os, ho.tape.trans h.tape, ho.output.trans h.output, Nat.le_trans h.size ho.size, fun k hk hn => (ho.block k (Nat.lt_of_lt_of_le hk h.size) hn).trans (h.block k hk hn)⟩
def WtsR (b : Nat) (w : World) (e : Ending) (w' : World) : Prop :=
  ∃ (n cap : Nat) (a : Option Addr) (g : Nat → Int), e = .returned (.slice a n cap) ∧ n ≤ 6 ∧ (∀ k, k < n → 0 ≤ g k ∧ g k ≤ 1000000000) ∧ (n = 0 ∨ ∃ x, a = some x ∧ WRow w' x n g ∧ w.heap.size ≤ x.block ∧ x.block < w'.heap.size) ∧ TapeAt b w' ∧ Only b w w'

theorem grown_wide {b base : Nat} {w u v : World} {row : Option Nat} (h : Wide b base w u) (hg : u.grownBy v row) (hr : ∀ k, row = some k → base ≤ k) : Wide b base w v :=
  ⟨hg.os.trans h.os, hg.tape.trans h.tape, hg.output.trans h.output, Nat.le_trans h.size hg.size, fun k hk hn => (hg.block k (Nat.lt_of_lt_of_le hk h.size) (fun e => by have := hr k e.symm; omega)).trans (h.block k hk hn)⟩

set_option maxRecDepth 100000 in
set_option maxHeartbeats 4000000 in
theorem weights_any (b : Nat) (w : World) (h : TapeAt b w) :
    Calls Try.prog 12 #[.pointer (some ⟨b, 0, none⟩)] w (WtsR b w) := by
  have hb := h.lt
  obtain ⟨i0, hi, hz0, hz1, hz2⟩ := info_parts info_int
  have HT := Lib.hid h
  clear h
  go_enter Try.func12, Try.ntmps12
  go_wp2_with fail
  refine (next_any b 7 (by omega) (by omega) _ HT.out).mono ?_
  rintro e w1 ⟨v1, rfl, x1, y1, T1, O1⟩
  obtain ⟨j1, rfl⟩ := Int.eq_ofNat_of_zero_le x1
  have HT1 := Lib.hid T1
  have HO1 := Lib.hid O1
  clear T1 O1 HT
  go_wp2_with fail
  go_loopw [3, 4] (fun v i wr => ∃ (j : Nat) (xs : List Int) (v0 : Value), v = v0 ∧ j + xs.length ≤ 6 ∧ i = .int .i64 j ∧ wr.ownsRow w.heap.size 3 1 v0 xs.length (xs.map (Value.int .i64)) ∧ Hid (∀ y ∈ xs, 0 ≤ y ∧ y ≤ 1000000000) ∧ Hid (TapeAt b wr) ∧ Hid (Wide b w.heap.size w wr)) (fun _ i _ => (RowKit.intOf i).toNat)
  case atStart => exact ⟨j1, [], .slice none 0 0, rfl, by simp; omega, rfl, World.ownsRow_nil _ _ _ _, Lib.hid (by simp), HT1, Lib.hid ⟨HO1.out.os, HO1.out.tape, HO1.out.output, HO1.out.size, HO1.out.block⟩⟩
  case round =>
    clear HT1 HO1
    obtain ⟨j, xs, v, hv, hj, rfl, hown, HX, HT, HW⟩ := hrel
    have hv' := hv.symm
    clear hv
    subst hv'
    have HN := Lib.hid hown
    clear hown
    by_cases h : 0 < j
    · go_wp2_with fail
      refine (next_any b 10 (by omega) (by omega) _ HT.out).mono ?_
      rintro e w2 ⟨v2, rfl, x2, y2, T2, O2⟩
      have HT2 := Lib.hid T2
      have HN2 := Lib.hid (own_only HN.out O2 hb)
      have HW2 := Lib.hid (HW.out.only O2)
      clear T2 O2 HT HN HW
      go_wp2_with fail
      refine (pick_new b [1, v2, 0, 1000000000, 3] (by simp) (by simp) _ _ _ (by simp) HT2.out).mono ?_
      rintro e w3 ⟨p3, rfl, m3, T3, O3⟩
      have HT3 := Lib.hid T3
      have hown := own_only HN2.out O3 hb
      have HW3 := Lib.hid (HW2.out.only O3)
      simp only [List.mem_cons, List.not_mem_nil, or_false] at m3
      have r3 : 0 ≤ p3 ∧ p3 ≤ 1000000000 := by omega
      have HX3 : Hid (∀ y ∈ xs ++ [p3], 0 ≤ y ∧ y ≤ 1000000000) := Lib.hid (by
        intro y hy
        rcases List.mem_append.1 hy with hy | hy
        · exact HX.out y hy
        · simp at hy; subst hy; exact r3)
      clear T3 O3 HT2 HN2 HW2 HX m3
      go_wp2_with (at_builtin; refine wpList_append_own _ rfl _ _ 22 rfl w.heap.size 3 i0 (.int .i64 0) 1 8 Try.underlying22 hi hz0 hz1 hz2 rfl (by decide) _ _ _ rfl (hown.alloc _) ⟨w3.heap.size, 0, none⟩ 1 1 [.int .i64 p3] rfl rfl ?c1 ?c2 ?c3 ?c4 ?c5 ?_)
      case c1 =>
        intro t u hu
        match t, hu with
        | 0, hu => simp at hu; subst hu; simp [Addr.add]
      case c2 => intro u hu; simp at hu; subst hu; rfl
      case c3 => unfold maxLen; omega
      case c4 => omega
      case c5 => have := HW3.out.size; simp; omega
      intro v' w4 hown' hgrow _
      have hr : ∀ k, v.ownBlock = some k → w.heap.size ≤ k := fun k hk => by
        rcases hown.2 with ⟨h1, _⟩ | ⟨g, cap, cur, h1, h2, _⟩
        · rw [h1] at hk; cases hk
        · rw [h1] at hk; cases hk; exact h2
      have HW4 := Lib.hid (grown_wide (HW3.out.only (Only.alloc (Only.refl b w3) (.cells #[.int .i64 p3] 3))) hgrow hr)
      have HT4 := Lib.hid ((HT3.out.alloc (.cells #[.int .i64 p3] 3)).same fun k hk => hgrow.block k (by have := HW3.out.size; simp; omega) (fun e => by have := hr k e.symm; omega))
      have HN4 : Hid (w4.ownsRow w.heap.size 3 1 v' (xs ++ [p3]).length ((xs ++ [p3]).map (Value.int .i64))) := Lib.hid (by simpa using hown')
      clear hown hown' hgrow hr
      go_wp2
      go_roundw
      case rel => exact ⟨j - 1, xs ++ [p3], v', rfl, by simp; omega, by go_num, HN4.out, HX3, HT4, HW4⟩
      case measure => simp [RowKit.intOf]; omega
    · obtain rfl : j = 0 := by omega
      go_wp2_with fail
      go_ret
      have hO : Only b w wr := ⟨HW.out.os, HW.out.tape, HW.out.output, HW.out.size, HW.out.block⟩
      rcases HN.out.2 with ⟨h1, h2⟩ | ⟨g, cap, cur, h1, h2, h3, h4, h5, h6, h7⟩
      · subst h1
        exact ⟨0, 0, none, fun _ => 0, rfl, by omega, fun k hk => by omega, .inl rfl, HT.out, hO⟩
      · have hq := HN.out
        subst h1
        refine ⟨xs.length, cap, some ⟨g, 0, none⟩, fun k => xs.getD k 0, rfl, by omega, fun k hk => ?_, .inr ⟨⟨g, 0, none⟩, rfl, fun k hk => ?_, h2, ?_⟩, HT.out, hO⟩
        · have e : xs.getD k 0 = xs[k] := by simp [List.getD, hk]
          show 0 ≤ xs.getD k 0 ∧ xs.getD k 0 ≤ 1000000000
          rw [e]; exact HX.out _ (List.getElem_mem hk)
        · have e : (⟨g, 0, none⟩ : Addr).add k = ⟨g, k, none⟩ := by unfold Addr.add; split <;> simp_all
          rw [e, hq.cellAt k (by omega)]
          simp [hk]
        · show g < wr.heap.size
          rcases Nat.lt_or_ge g wr.heap.size with h | h
          · exact h
          · rw [Array.getElem?_eq_none h] at h3; cases h3
end Go.Proofs.Ytgkjdaeihjedkaa.Tp
