/-
  Layer 6 (timeline): the contract of begins: the days on which the ranges begin, ascending. Condition: the list reads as changes.
-/
import Derived.Test.YtdpgmjmmnjbbiaaPrUi
import Derived.Test.YtdpgmjmmnjbbiaaPrUj
namespace Go.Proofs.Ytdpgmjmmnjbbiaa.Tl
open Go Go.RowKit Go.Lib Go.Sort Go.Shelf Go.Proofs Go.Proofs.Ytdpgmjmmnjbbiaa Go.Proofs.Ytdpgmjmmnjbbiaa.Tp
set_option linter.unusedVariables false

def begL (fr to : Int) (l : List Chg) : List Int := fr :: (l.filter fun c => decide (fr + 1 ≤ c.fr ∧ c.fr ≤ to)).map (·.fr)
theorem begL_snoc (fr to : Int) (l : List Chg) (k : Nat) (hk : k < l.length) : begL fr to (l.take (k + 1)) = begL fr to (l.take k) ++ (if fr + 1 ≤ l[k]!.fr ∧ l[k]!.fr ≤ to then [l[k]!.fr] else []) := by
  unfold begL
  rw [List.take_succ_eq_append_getElem hk, getElem!_pos l k hk, List.filter_append, List.map_append, List.cons_append]
  congr 2
  by_cases h : fr + 1 ≤ l[k].fr ∧ l[k].fr ≤ to
  · simp [h]
  · simp [h]
theorem begL_len (fr to : Int) (l : List Chg) : (begL fr to l).length ≤ l.length + 1 := by
  unfold begL
  rw [List.length_cons, List.length_map]
  have := List.length_filter_le (fun c : Chg => decide (fr + 1 ≤ c.fr ∧ c.fr ≤ to)) l
  omega
theorem mem_begL (fr to : Int) (l : List Chg) (x : Int) : x ∈ begL fr to l ↔ x = fr ∨ ∃ c ∈ l, c.fr = x ∧ fr + 1 ≤ x ∧ x ≤ to := by
  unfold begL
  rw [List.mem_cons, List.mem_map]
  constructor
  · rintro (h | ⟨c, hc, rfl⟩)
    · exact .inl h
    · rw [List.mem_filter] at hc
      have := of_decide_eq_true hc.2
      exact .inr ⟨c, hc.1, rfl, this.1, this.2⟩
  · rintro (h | ⟨c, hc, rfl, h1, h2⟩)
    · exact .inl h
    · exact .inr ⟨c, List.mem_filter.2 ⟨hc, decide_eq_true ⟨h1, h2⟩⟩, rfl⟩
theorem infoI : (Try.prog.info? 3).map (fun i => (i.zero, i.size, i.bytes)) = some (some (.int .i64 0), 1, 8) := by kernel_rfl
theorem info1 : ∃ i0 : TypeInfo, Try.prog.info? 3 = some i0 ∧ i0.zero = some (.int .i64 0) ∧ i0.size = 1 ∧ i0.bytes = 8 := by
  obtain ⟨i0, hi, hz0, hz1, hz2⟩ := info_parts infoI
  exact ⟨i0, hi, hz0, hz1, hz2⟩
/-- The days, while they are found. -/
structure BegI (w0 : World) (v : Value) (xs : List Int) (W : World) : Prop where
  row : W.ownsRow w0.heap.size 3 1 v xs.length (xs.map (Value.int .i64))
  below : Below w0.heap.size w0 W
theorem BegI.more {w0 W W' : World} {v : Value} {xs : List Int} (h : BegI w0 v xs W) (hb : Below W.heap.size W W') : BegI w0 v xs W' := by
  refine ⟨⟨h.row.1, ?_⟩, h.below.trans (hb.mono h.below.size)⟩
  rcases h.row.2 with h0 | ⟨g, cap, cur, e, h1, h2, h3⟩
  · exact .inl h0
  · exact .inr ⟨g, cap, cur, e, h1, (hb.block g (Array.getElem?_eq_some_iff.1 h2).1).trans h2, h3⟩
theorem BegI.grown {w0 W W' : World} {v v' : Value} {xs : List Int} {x : Int} (h : BegI w0 v xs W) (ho : W'.ownsRow w0.heap.size 3 1 v' (xs.length + 1) (xs.map (Value.int .i64) ++ [.int .i64 x])) (hg : W.grownBy W' v.ownBlock) : BegI w0 v' (xs ++ [x]) W' :=
  ⟨by simpa using ho, h.below.grown hg h.below.size fun g hg' => (h.row.lt g hg').1⟩
theorem own_one (w : World) (x : Int) : (w.alloc (.cells #[.int .i64 x] 3)).ownsRow w.heap.size 3 1 (.slice (some ⟨w.heap.size, 0, none⟩) 1 1) 1 [.int .i64 x] :=
  ⟨rfl, .inr ⟨w.heap.size, 1, #[.int .i64 x], rfl, Nat.le_refl _, by show (w.heap.push _)[w.heap.size]? = _; simp, Nat.le_refl _, by unfold maxLen; omega, rfl, rfl⟩⟩
theorem canon_def (zs : List Int) : canon zs = compact (zs.mergeSort fun x y => decide (x ≤ y)) := rfl

set_option maxRecDepth 100000 in
set_option maxHeartbeats 4000000 in
theorem begins_any (a : Option Addr) (n cap : Nat) (cs : List Chg) (fr to : Int) (hf : 0 ≤ fr ∧ fr ≤ 84005) (hn : n ≤ 10000) (w : World) (hr : ChgRow w w.heap.size a n cs) :
    Calls Try.prog 41 #[.slice a n cap, .int .i64 fr, .int .i64 to] w (CompR w.heap.size (canon (begL fr to cs)) w) := by
  obtain ⟨i0, hi0, hz0, hz1, hz2⟩ := info1
  have HQ := Lib.hid (And.intro hi0 (And.intro hz0 (And.intro hz1 hz2)))
  have HR := Lib.hid hr
  have HL := Lib.hid hr.1
  have HI0 : Hid (BegI w (.slice (some ⟨w.heap.size, 0, none⟩) 1 1) (begL fr to (cs.take 0)) (w.alloc (.cells #[.int .i64 fr] 3))) :=
    Lib.hid ⟨by rw [show begL fr to (cs.take 0) = [fr] by simp [begL]]; exact own_one w fr, (Below.refl _ _).alloc (Nat.le_refl _) _⟩
  have wf : IntKind.i64.wrap (fr + 1) = fr + 1 := by rw [IntKind.wrap_i64]; omega
  clear hr hi0 hz0 hz1 hz2 hf
  go_enter Try.func41, Try.ntmps41
  go_wp2_with fail
  go_loopw [7, 14] (fun v z wr => ∃ k : Nat, k ≤ n ∧ z = .int .i64 k ∧ Hid (BegI w v (begL fr to (cs.take k)) wr)) (fun _ z _ => n - (intOf z).toNat)
  case atStart => exact ⟨0, by omega, rfl, HI0⟩
  case round =>
    clear HI0
    obtain ⟨k, hk, rfl, HI⟩ := hrel
    by_cases hlt : k < n
    · have t0 : decide ((k : Int) < (n : Int)) = true := decide_eq_true (by omega)
      obtain ⟨x, hx0, hx, hc⟩ := (HR.out.below HI.out.below).2 (by omega)
      subst hx0
      obtain ⟨c0, c1, c2, c3⟩ := hc k hlt
      have SN := Lib.hid (begL_snoc fr to cs k (by rw [HL.out]; exact hlt))
      have NL := begL_len fr to (cs.take k)
      have NT : (cs.take k).length ≤ k := List.length_take_le _ _
      generalize begL fr to (cs.take k) = xs at *
      generalize cs[k]! = c at *
      obtain ⟨f, kn, v0, d⟩ := c
      simp only at c0 c1 c2 c3
      clear hc
      by_cases hw : fr + 1 ≤ f ∧ f ≤ to
      · have SN2 := Lib.hid (SN.out.trans (by rw [if_pos hw]))
        clear SN
        have HI5 := Lib.hid ((HI.out.more ((Below.refl wr.heap.size wr).alloc (Nat.le_refl _) (.cells #[.int .i64 f, .int .i64 kn, .int .i64 v0, .bool d] 42))).more ((Below.refl _ _).alloc (Nat.le_refl _) (.cells #[.int .i64 f] 3)))
        go_wp2_with (first | (go_at_call 31; (with_reducible refine (wit_yes _ _ _ hw _).mono ?_); rintro e w' ⟨rfl, rfl⟩) | (at_builtin; refine wpList_append_own _ rfl _ _ 22 rfl w.heap.size 3 i0 (.int .i64 0) 1 8 Try.underlying22 HQ.out.1 HQ.out.2.1 HQ.out.2.2.1 HQ.out.2.2.2 rfl (by decide) _ _ _ rfl HI5.out.row ⟨wr.heap.size + 1, 0, none⟩ 1 1 [.int .i64 f] rfl rfl ?qq1 ?qq2 ?qq3 ?qq4 ?qq5 ?_))
        case qq1 =>
          intro j y hy
          rcases j with _ | j
          · have e : y = .int .i64 f := by simpa using hy.symm
            subst e; go_simp
          · simp at hy
        case qq2 => intro y hy; simp at hy; subst hy; rfl
        case qq3 => unfold maxLen; omega
        case qq4 => omega
        case qq5 => exact HI5.out.below.size
        intro v2 w6 hown hgrow _
        have HI6 := Lib.hid (HI5.out.grown hown hgrow)
        clear hown hgrow HI5
        go_wp2_with fail
        go_roundw
        case rel => exact ⟨k + 1, by omega, by go_num, by rw [SN2.out]; exact HI6⟩
        case measure => simp [intOf]; omega
      · have SN2 := Lib.hid (SN.out.trans (by rw [if_neg hw, List.append_nil]))
        clear SN
        go_wp2_with (go_at_call 31; (with_reducible refine (wit_no _ _ _ hw _).mono ?_); rintro e w' ⟨rfl, rfl⟩)
        go_roundw
        case rel => exact ⟨k + 1, by omega, by go_num, by rw [SN2.out]; exact Lib.hid (HI.out.more ((Below.refl wr.heap.size wr).alloc (Nat.le_refl _) _))⟩
        case measure => simp [intOf]; omega
    · obtain rfl : k = n := by omega
      have t0 : decide ((k : Int) < (k : Int)) = false := decide_eq_false (by omega)
      rw [List.take_of_length_le (by have := HL.out; omega)] at HI
      have NL := begL_len fr to cs
      have HLn := HL.out
      have HNE := Lib.hid (show begL fr to cs ≠ [] by unfold begL; exact List.cons_ne_nil _ _)
      have HCN := Lib.hid (canon_ne (begL fr to cs) HNE.out)
      have HCL := Lib.hid (canon_len (begL fr to cs))
      have HDF := Lib.hid (canon_def (begL fr to cs))
      generalize begL fr to cs = xs at *
      have CS := sort_own wr w.heap.size xs.length _ xs rfl HI.out.row HI.out.below.size (by omega)
      clear HNE HLn
      go_wp2_with fail
      refine CS.mono ?_
      rintro e w2 ⟨rfl, b2, o2⟩
      have B2 := Lib.hid (HI.out.below.trans b2)
      have hle : w.heap.size ≤ w2.heap.size := B2.out.size
      have LY := Lib.hid (show (xs.mergeSort fun x y => decide (x ≤ y)).length = xs.length from List.length_mergeSort ..)
      have CC := compact_own w2 w.heap.size xs.length _ (xs.mergeSort fun x y => decide (x ≤ y)) LY.out o2 hle (by rw [← HDF.out, LY.out]; exact HCL.out) (fun _ => by rw [← HDF.out]; exact HCN.out)
      rw [← HDF.out] at CC
      have CCH := Lib.hid CC
      clear CS o2 b2 CC HI HDF HCN HCL LY
      generalize canon xs = ys at *
      go_wp2_with fail
      refine CCH.out.mono ?_
      rintro e w3 ⟨v3, rfl, o3, b3⟩
      have O3 := Lib.hid o3
      have B3 := Lib.hid (B2.out.trans b3)
      clear o3 b3
      go_wp2_with fail
      go_ret
      exact ⟨v3, rfl, O3.out, B3.out⟩
end Go.Proofs.Ytdpgmjmmnjbbiaa.Tl
