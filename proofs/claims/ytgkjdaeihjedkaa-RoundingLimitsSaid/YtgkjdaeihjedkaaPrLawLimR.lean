/-
  RoundingLimits returns true: MaxList weights are accepted, and not one more. Condition: the list's cells hold ints.
-/
import Derived.Test.YtgkjdaeihjedkaaPrAtX
import Derived.Test.YtgkjdaeihjedkaaPrLawAll
namespace Go.Proofs.Ytgkjdaeihjedkaa
open Go Go.RowKit Go.Lib Go.Sort Go.Shelf Go.Proofs Go.Proofs.Ytgkjdaeihjedkaa.Tp
set_option linter.unusedVariables false

theorem mod3_any (v : Int) (hv0 : -9223372036854775808 ≤ v) (hv1 : v ≤ 9223372036854775807) (w : World) :
    Calls Try.prog 6 #[.int .i64 v, .int .i64 3] w fun e w' => ∃ m : Nat, m ≤ 2 ∧ e = .returned (.int .i64 m) ∧ w = w' := by
  refine (mod_any v 3 hv0 hv1 (by omega) (by omega) w).mono ?_
  rintro e w' ⟨rfl, rfl⟩
  have h0 := modT_lo v 3 (by omega)
  have h1 := modT_hi v 3 (by omega)
  obtain ⟨m, hm⟩ := Int.eq_ofNat_of_zero_le h0
  exact ⟨m, by omega, by rw [hm], rfl⟩
theorem mod5_any (v : Int) (hv0 : -9223372036854775808 ≤ v) (hv1 : v ≤ 9223372036854775807) : ∃ T : Int, 0 ≤ T ∧ T ≤ 4999 ∧ ∀ w, Calls Try.prog 6 #[.int .i64 v, .int .i64 5000] w fun e w' => e = .returned (.int .i64 T) ∧ w = w' :=
  ⟨modT v 5000, modT_lo v 5000 (by omega), by have := modT_hi v 5000 (by omega); omega, fun w => mod_any v 5000 hv0 hv1 (by omega) (by omega) w⟩
theorem wide_below {B b base : Nat} {w w0 wr : World} (h : Wide b base w0 wr) (hK : Below B w w0) (hb : B ≤ b) (hB : B ≤ base) (hs : base ≤ w0.heap.size) (hs2 : w0.heap.size ≤ wr.heap.size) : Below B w wr :=
  hK.trans ⟨h.os, h.tape, h.output, hs2, fun k hk => h.block k (by omega) (by omega)⟩
/-- Allocate at the list of the law. -/
theorem alloc_lim (T : Int) (h0 : 0 ≤ T) (h1 : T ≤ 4999) (n cap : Nat) (hn : n + 1 ≤ 1000000) (x : Addr) (zs : List Int) (hl : zs.length = n) (hz : ∀ y ∈ zs, 0 ≤ y ∧ y ≤ 1000000000) (w : World) (hx : x.block < w.heap.size) (hr : WRow w x (n + 1) fun k => (zs ++ [1]).getD k 0) :
    Calls Try.prog 9 #[.int .i64 T, .slice (some x) (n + 1) cap] w fun e w' => ∃ v c, e = .returned (.tuple #[v, .int .i64 c]) ∧ Below w.heap.size w w' ∧ (c == 3) = decide ((1024 : Int) < ((n + 1 : Nat) : Int)) := by
  rcases Nat.lt_or_ge 1024 (n + 1) with h | h
  · refine (al_limit T (some x) (n + 1) cap h (by omega) w).mono ?_
    rintro e w' ⟨rfl, rfl⟩
    exact ⟨_, _, rfl, Below.refl _ _, by rw [decide_eq_true (by omega)]; rfl⟩
  · have g01 : ∀ k, k < n + 1 → 0 ≤ (zs ++ [1]).getD k 0 ∧ (zs ++ [1]).getD k 0 ≤ 1000000000 := by
      intro k hk
      have hk2 : k < (zs ++ [1]).length := by simp; omega
      have e : (zs ++ [1]).getD k 0 = (zs ++ [1])[k] := by rw [List.getD_eq_getElem?_getD, List.getElem?_eq_getElem hk2]; rfl
      rw [e]
      rcases List.mem_append.1 (List.getElem_mem hk2) with hm | hm
      · exact hz _ hm
      · simp only [List.mem_cons, List.not_mem_nil, or_false] at hm; omega
    have hlast : (zs ++ [1]).getD n 0 = 1 := by subst hl; simp [List.getD]
    have hs : 1 ≤ sumTo (fun k => (zs ++ [1]).getD k 0) (n + 1) := by
      have := sumTo_nonneg (g := fun k => (zs ++ [1]).getD k 0) (n := n) fun i hi => (g01 i (by omega)).1
      show 1 ≤ sumTo (fun k => (zs ++ [1]).getD k 0) n + (zs ++ [1]).getD n 0
      omega
    haveI : Inhabited (Fin (n + 1)) := ⟨⟨0, by omega⟩⟩
    refine (alloc_pos (n + 1) T _ x cap (fun k => (zs ++ [1]).getD k 0) h (by omega) (by omega) (fun k hk => (g01 k hk).1) (fun k hk => (g01 k hk).2) rfl hs w hx hr).mono ?_
    rintro e w' ⟨rfl, _, hB⟩
    exact ⟨_, _, rfl, hB, by rw [decide_eq_false (by omega)]; rfl⟩
/-- What the loop makes. -/
structure LimI (b base : Nat) (w0 : World) (j M : Nat) (xs : List Int) (v : Value) (wr : World) : Prop where
  sum : j + xs.length = M
  row : wr.ownsRow base 3 1 v xs.length (xs.map (Value.int .i64))
  bd : ∀ y ∈ xs, 0 ≤ y ∧ y ≤ 1000000000
  tape : TapeAt b wr
  wide : Wide b base w0 wr

set_option maxRecDepth 100000 in
set_option maxHeartbeats 4000000 in
theorem rlim_walk (p : Option Addr) (len cap0 : Nat) (zs : List Int) (N T : Int) (hN0 : -9223372036854775808 ≤ N) (hN1 : N ≤ 9223372036854775807) (hT0 : -9223372036854775808 ≤ T) (hT1 : T ≤ 9223372036854775807)
    (w : World) (hr : IsRow w p len cap0 zs) (hl : len ≤ 9223372036854775807) :
    Calls Try.prog 3 #[.slice p len cap0, .int .i64 N, .int .i64 T] w fun e w' => e = .returned (.bool true) ∧ Below w.heap.size w w' := by
  obtain ⟨i0, hi, hz0, hz1, hz2⟩ := info_parts info_int
  have K0 : Kept w w.heap.size (w.alloc (.cells #[.slice p len cap0, .int .i64 0] 37)) := ⟨tape_new hr hl _, boxed1 _ _, Nat.le_refl _⟩
  have HK := Lib.hid K0
  have hsz : w.heap.size < (w.alloc (.cells #[.slice p len cap0, .int .i64 0] 37)).heap.size := by simp
  clear hr K0
  go_enter Try.func3, Try.ntmps3
  go_wp2_with fail
  refine (gnew_any _ _ _ _).mono ?_
  rintro e w' ⟨rfl, rfl⟩
  generalize w.alloc (.cells #[.slice p len cap0, .int .i64 0] 37) = w0 at HK hsz ⊢
  generalize hbb : w.heap.size = b at HK hsz ⊢
  go_wp2_with fail
  refine (mod3_any N hN0 hN1 _).mono ?_
  rintro e w' ⟨m, hm, rfl, rfl⟩
  go_wp2_with fail
  go_loopw [8, 9] (fun v i wr => ∃ (j : Nat) (xs : List Int) (v0 : Value), v = v0 ∧ j ≤ 1025 ∧ i = .int .i64 j ∧ Hid (LimI b w0.heap.size w0 j (1023 + m) xs v0 wr)) (fun _ i _ => (RowKit.intOf i).toNat)
  case atStart => exact ⟨1023 + m, [], .slice none 0 0, rfl, by omega, by go_num, Lib.hid ⟨by simp, World.ownsRow_nil _ _ _ _, by simp, HK.out.tape, ⟨rfl, rfl, rfl, Nat.le_refl _, fun _ _ _ => rfl⟩⟩⟩
  case round =>
    obtain ⟨j, xs, v, hv, hj, rfl, HI⟩ := hrel
    have hv' := hv.symm
    clear hv
    subst hv'
    by_cases h : 0 < j
    · go_wp2_with fail
      refine (next_any b 100 (by omega) (by omega) _ HI.out.tape).mono ?_
      rintro e w2 ⟨v2, rfl, x2, y2, T2, O2⟩
      have HI2 : Hid (LimI b w0.heap.size w0 j (1023 + m) xs v w2) := Lib.hid ⟨HI.out.sum, own_only HI.out.row O2 hsz, HI.out.bd, T2, HI.out.wide.only O2⟩
      clear T2 O2 HI
      go_wp2_with fail
      refine (pick_new b [1, v2, 0] (by simp) (by simp) _ _ _ (by simp) HI2.out.tape).mono ?_
      rintro e w3 ⟨p3, rfl, m3, T3, O3⟩
      simp only [List.mem_cons, List.not_mem_nil, or_false] at m3
      have r3 : 0 ≤ p3 ∧ p3 ≤ 1000000000 := by omega
      have HI3 : Hid (LimI b w0.heap.size w0 j (1023 + m) xs v w3) := Lib.hid ⟨HI2.out.sum, own_only HI2.out.row O3 hsz, HI2.out.bd, T3, HI2.out.wide.only O3⟩
      have hown := HI3.out.row
      have hxl : xs.length ≤ 1025 := by have := HI3.out.sum; omega
      clear T3 O3 HI2 m3
      go_wp2_with (at_builtin; refine wpList_append_own _ rfl _ _ 22 rfl w0.heap.size 3 i0 (.int .i64 0) 1 8 Try.underlying22 hi hz0 hz1 hz2 rfl (by decide) _ _ _ rfl (hown.alloc _) ⟨w3.heap.size, 0, none⟩ 1 1 [.int .i64 p3] rfl rfl ?c1 ?c2 ?c3 ?c4 ?c5 ?_)
      case c1 =>
        intro t u hu
        match t, hu with
        | 0, hu => simp at hu; subst hu; simp [Addr.add]
      case c2 => intro u hu; simp at hu; subst hu; rfl
      case c3 => unfold maxLen; omega
      case c4 => omega
      case c5 => have := HI3.out.wide.size; simp; omega
      intro v' w4 hown' hgrow _
      have hr : ∀ k, v.ownBlock = some k → w0.heap.size ≤ k := fun k hk => (hown.lt k hk).1
      have HI4 : Hid (LimI b w0.heap.size w0 (j - 1) (1023 + m) (xs ++ [p3]) v' w4) := Lib.hid {
        sum := by have := HI3.out.sum; simp; omega
        row := by simpa using hown'
        bd := by
          intro y hy
          rcases List.mem_append.1 hy with hy | hy
          · exact HI3.out.bd y hy
          · simp at hy; subst hy; exact r3
        tape := (HI3.out.tape.alloc (.cells #[.int .i64 p3] 3)).same fun k hk => hgrow.block k (by have := HI3.out.wide.size; simp; omega) (fun e => by have := hr k e.symm; omega)
        wide := grown_wide (HI3.out.wide.only (Only.alloc (Only.refl b w3) (.cells #[.int .i64 p3] 3))) hgrow hr }
      clear hown hown' hgrow hr HI3
      go_wp2
      go_roundw
      case rel => exact ⟨j - 1, xs ++ [p3], v', rfl, by omega, by go_num, HI4⟩
      case measure => simp [RowKit.intOf]; omega
    · obtain rfl : j = 0 := by omega
      have hown := HI.out.row
      rcases hown.2 with ⟨_, h0⟩ | ⟨g, cap, cur, rfl, h2, h3, h4, h5, _, _⟩
      · have := HI.out.sum; omega
      · obtain ⟨y, ys, rfl⟩ : ∃ y ys, xs = y :: ys := by
          rcases xs with _ | ⟨y, ys⟩
          · have := HI.out.sum; simp at this; omega
          · exact ⟨y, ys, rfl⟩
        have hlen0 : (y :: ys).length = ys.length + 1 := rfl
        have hn1 : ys.length + 1 ≤ 1025 := by have := HI.out.sum; simp only [List.length_cons] at this; omega
        have hn0 : 1000 ≤ ys.length := by have := HI.out.sum; simp only [List.length_cons] at this; omega
        have hyl : ((ys.map (Value.int .i64)).length) = ys.length := List.length_map _
        rw [hlen0] at hown h4 HI ⊢
        generalize hnn : ys.length = n at hown h4 HI hn1 hn0 ⊢
        simp only [List.map_cons] at hown
        have g1 : (1 : Int) ≤ ((n + 1 : Nat) : Int) := by omega
        have g2 : (1 : Int) ≤ (cap : Int) := by omega
        have g3 : ((n + 1 : Nat) : Int) ≤ (cap : Int) := by omega
        have hc1 : ¬ cap = 1 := by omega
        have hgb : w0.heap.size ≤ wr.heap.size := HI.out.wide.size
        have HO := Lib.hid hown
        clear h2 h3 h5 hown
        go_wp2_with (at_builtin; refine wpList_append_rest _ rfl _ _ 22 rfl w0.heap.size 3 i0 (.int .i64 0) Try.underlying22 hi hz0 hz1 hz2 rfl g n cap _ (.int .i64 y) (ys.map (Value.int .i64)) ?d1 rfl (HO.out.alloc _) ⟨wr.heap.size, 0, none⟩ 1 (.int .i64 1) rfl ?d2 rfl ?d3 ?d4 ?_)
        case d1 => first | rfl | omega
        case d2 => go_simp
        case d3 => omega
        case d4 => simp; omega
        intro x cap2 w5 hcell hxb hxl hgrow hcap2 hcap3
        obtain ⟨T5, t0, t1, hm5⟩ := mod5_any T hT0 hT1
        have HM := Lib.hid hm5
        have hB5 : Below w.heap.size w w5 := by
          have HW := grown_wide (HI.out.wide.only (Only.alloc (Only.refl b wr) (.cells #[.int .i64 1] 3))) hgrow (fun k hk => by cases hk; exact (HO.out.lt g rfl).1)
          exact wide_below HW HK.out.below (by omega) (by omega) (Nat.le_refl _) HW.size
        have HW5 : Hid (WRow w5 x (n + 1) fun k => (ys ++ [1]).getD k 0) := Lib.hid (by
          intro k hk
          refine hcell k _ ?_
          have e : (ys.map (Value.int .i64)) ++ [.int .i64 1] = (ys ++ [1]).map (Value.int .i64) := by simp
          have hk2 : k < (ys ++ [1]).length := by simp [hnn]; omega
          show _ = some (Value.int .i64 ((ys ++ [1]).getD k 0))
          rw [e, List.getElem?_map, List.getElem?_eq_getElem hk2, List.getD_eq_getElem?_getD, List.getElem?_eq_getElem hk2]
          rfl)
        have HZ : Hid (∀ y ∈ ys, 0 ≤ y ∧ y ≤ 1000000000) := Lib.hid fun z hz => HI.out.bd z (List.mem_cons_of_mem _ hz)
        have HB5 := Lib.hid hB5
        clear hm5 hB5 hcell hgrow HI HO
        go_wp2_with fail
        refine (HM.out _).mono ?_
        rintro e w6 ⟨rfl, rfl⟩
        go_wp2_with fail
        refine (alloc_lim T5 t0 t1 n cap2 (by omega) x ys hnn HZ.out _ hxl HW5.out).mono ?_
        rintro e w6 ⟨v6, c6, rfl, hB6, hc6⟩
        have HB6 := Lib.hid (HB5.out.trans (hB6.mono HB5.out.size))
        have HW6 : Hid (WSl w6 (some x) (n + 1) fun k => (ys ++ [1]).getD k 0) := Lib.hid (.inr ⟨x, rfl, Nat.lt_of_lt_of_le hxl hB6.size, HW5.out.below hB6 hxl⟩)
        clear hB6 HW5 HB5 HZ
        go_wp2_with fail
        refine (HM.out _).mono ?_
        rintro e w7 ⟨rfl, rfl⟩
        go_wp2_with fail
        refine (allocates_any T5 (some x) (n + 1) cap2 _ (by omega) _ HW6.out).mono ?_
        rintro e w7 ⟨rfl, hB7⟩
        have HB7 := Lib.hid (HB6.out.trans (hB7.mono HB6.out.size))
        clear hB7 HB6 HW6
        go_wp2_with fail
        refine (sane_any _).mono ?_
        rintro e w8 ⟨rfl, hB8⟩
        have HB8 := Lib.hid (HB7.out.trans (hB8.mono HB7.out.size))
        go_wp2_with fail
        go_ret
        exact ⟨rfl, HB8.out⟩
end Go.Proofs.Ytgkjdaeihjedkaa
