/-
  Layer 4 (clock): the contract of Instants at a valid zone. Conditions: the zone is valid and lies in its cells.
-/
import Derived.Test.YtbbfkpkibakieaaPrZm
import Derived.Test.YtbbfkpkibakieaaShelf
import Derived.Maps.AppendAt
import Derived.Lib.OwnBridge
import Derived.Sort.OwnSortedInts
namespace Go.Proofs.Ytbbfkpkibakieaa
open Go Go.RowKit Go.Lib Go.Sort
attribute [local go_sem] Oper.semAt_some

theorem infoInt : (Try.prog.info? 3).map (fun i => (i.zero, i.size, i.bytes)) = some (some (.int .i64 0), 1, 8) := by kernel_rfl
theorem ownsRow_le {w : World} {base base' : Nat} {e : TypeId} {size : Nat} {v : Value} {k : Nat} {xs : List Value} (h : w.ownsRow base e size v k xs) (hb : base' ≤ base) : w.ownsRow base' e size v k xs := by
  refine ⟨h.1, h.2.imp id ?_⟩
  rintro ⟨g, cap, cur, h1, h2, h3⟩
  exact ⟨g, cap, cur, h1, Nat.le_trans hb h2, h3⟩
/-- A variable's box that holds a row of the call's own abides. -/
theorem ab_holds {β : Type} {lo hi B base : Nat} {t e : TypeId} {size : Nat} (k : β → Nat) (f : β → List Value) (hB : B < lo) (hb : hi ≤ base) : Ab lo hi (fun s W => ∃ v, Boxed W B t v ∧ W.ownsRow base e size v (k s) (f s)) := by
  rintro s X Y row ⟨v, hv, hr⟩ hg hrow
  refine ⟨v, ab_boxed (β := Unit) t (fun _ => v) (.inl hB) () X Y row hv hg hrow, hr.kept hg ?_⟩
  rcases hr.2 with ⟨rfl, _⟩ | ⟨g, cap, cur, rfl, h2, h3, _⟩
  · exact .inl rfl
  · refine .inr fun e' => ?_
    have e2 : row = some g := by simpa [Value.ownBlock] using e'.symm
    obtain ⟨h4, h5⟩ := hrow g e2
    rcases h5 with h5 | ⟨o, ho, hc⟩
    · omega
    · rw [h3] at ho; cases ho; cases hc
/-- 'l = append(l, ..)' in a round: what the walk owes. -/
theorem app_step {W w1 : World} {base B : Nat} {t e : TypeId} {size : Nat} {v v' : Value} {k m : Nat} {xs ys : List Value} {tmp : Obj} {mine : Nat → Obj → Prop}
    (hv : Boxed W B t v) (hte : t ≠ e) (hrow : W.ownsRow base e size v k xs) (hown' : w1.ownsRow base e size v' m ys) (hgrow : (W.alloc tmp).grownBy w1 v.ownBlock)
    (hmB : ∀ o, mine B o) (hmR : ∀ k vs fz, base ≤ k → mine k (.cells vs e fz)) :
    Boxed w1 B t v ∧ Boxed (w1.setCell ⟨B, 0, none⟩ v') B t v' ∧ (w1.setCell ⟨B, 0, none⟩ v').ownsRow base e size v' m ys ∧ KeepsBut mine W (w1.setCell ⟨B, 0, none⟩ v') ∧
    (∀ B' t' u, Boxed W B' t' u → B' < base → B' ≠ B → Boxed (w1.setCell ⟨B, 0, none⟩ v') B' t' u) ∧ (∀ n₀ w₀, Below n₀ w₀ W → n₀ ≤ w₀.heap.size → n₀ ≤ B → n₀ ≤ base → Below n₀ w₀ (w1.setCell ⟨B, 0, none⟩ v')) := by
  have hv1 : Boxed w1 B t v := (hv.alloc tmp).kept hgrow (hv.not_row hte hrow)
  have own : ∀ j, v.ownBlock = some j → base ≤ j ∧ ∃ vs fz, (W.alloc tmp).heap[j]? = some (.cells vs e fz) := fun j ej => by
    rcases (hrow.alloc tmp).2 with ⟨rfl, _⟩ | ⟨g, cap, cur, rfl, hb, hgb, _⟩
    · simp [Value.ownBlock] at ej
    · obtain rfl : g = j := by simpa [Value.ownBlock] using ej
      exact ⟨hb, _, _, hgb⟩
  refine ⟨hv1, hv1.set v', hown'.kept (grownBy_setCell' w1 B v') (.inr (hv1.not_row hte hown').symm), ?_, ?_, ?_⟩
  · refine ((KeepsBut.alloc W tmp).trans (KeepsBut.grown hgrow fun j o ej hj => ?_)).trans (KeepsBut.setCell _ _ _ fun o _ => hmB o)
    obtain ⟨h1, vs, fz, h2⟩ := own j ej
    rw [h2] at hj; cases hj
    exact hmR j vs fz h1
  · intro B' t' u hu ht' hne
    exact ((hu.alloc tmp).kept hgrow (fun e' => by have := (own B' e'.symm).1; omega)).other hne v'
  · intro n₀ w₀ hb hn hB hbase
    refine ((hb.alloc (Nat.le_trans hn hb.size) tmp).grown hgrow (by have := hb.size; simp; omega) fun j ej => ?_).setCell (p := ⟨B, 0, none⟩) hB v'
    have := (own j ej).1
    omega

/-- slices.Reverse at a row of the call's own. -/
theorem rev_own (w : World) (base n : Nat) (v : Value) (zs : List Int) (hn : zs.length = n) (hown : w.ownsRow base 3 1 v n (zs.map (Value.int .i64))) (hlen : zs.length ≤ 1000000) :
    Calls Try.prog 36 #[v] w fun e w' => e = .returned (.tuple #[]) ∧ (∀ n₀ w₀, Below n₀ w₀ w → n₀ ≤ base → Below n₀ w₀ w') ∧ w'.ownsRow base 3 1 v n (zs.reverse.map (Value.int .i64)) ∧ KeepsOthers w w' := by
  subst hn
  have hown0 := hown
  rcases hown.2 with ⟨rfl, h0⟩ | ⟨g, cap, cur, rfl, hg, hb, hc, hm, hs, ht⟩
  · have hz : zs = [] := List.length_eq_zero_iff.mp h0
    subst hz
    exact (Try.slices_Reverse_int_empty _ _ w).mono fun e w' ⟨he, hw⟩ => ⟨he, by subst hw; exact fun _ _ h _ => h, by subst hw; simpa using hown, by subst hw; exact KeepsOthers.refl _⟩
  · rw [Nat.mul_one] at ht
    refine (Try.slices_Reverse_int g 0 cap zs w (holds_of_blockI hb ht) (by omega)).mono fun e w' ⟨he, k, hw⟩ => ⟨he, fun n₀ w₀ h h' => by subst hw; exact below_putRow h (by omega), ?_, ?_⟩
    · subst hw
      have := ownsRow_putRow (q := k) (ys := zs.reverse) (k := zs.length) hown0 (by simp) (Nat.le_refl _)
      rwa [List.take_of_length_le (by simp)] at this
    · subst hw
      refine ⟨by simp [putRow, mapBlock, Sort.ahead], fun j o hj ho => ?_⟩
      by_cases e : j = g
      · subst e; rw [hb] at hj; cases hj; cases ho
      · rw [← hj]; simp [putRow, mapBlock, Sort.ahead, Array.getElem?_modify, show g ≠ j by omega]

/-- What Instants leaves. -/
def InsR (zs : List Int) (w : World) (e : Ending) (w' : World) : Prop := ∃ v, e = .returned (.tuple #[v, .int .i64 0]) ∧ w'.ownsRow w.heap.size 3 1 v zs.length (zs.map (Value.int .i64)) ∧ Below w.heap.size w w'
theorem iL_snoc (l : Int) (pre : List Span) (x : Span) : iL l (pre ++ [x]) = iL l pre ++ (if x.1 ≤ l - x.2.2 ∧ l - x.2.2 < x.2.1 then [l - x.2.2] else []) := by
  unfold iL
  rw [List.filterMap_append]
  congr 1
  by_cases h : x.1 ≤ l - x.2.2 ∧ l - x.2.2 < x.2.1
  · rw [if_pos h]; simp [h]
  · rw [if_neg h]; simp only [List.filterMap_cons, if_neg h, List.filterMap_nil]

set_option maxRecDepth 100000 in
set_option maxHeartbeats 4000000 in
theorem instants_at (off : Int) (a : Option Addr) (n cap : Nat) (cs : List (Int × Int)) (t : Int) (hn : n ≤ 64) (w : World) (hr : ChRow w w.heap.size a n cs) (hv : vE off cs = 0) (hL : ∀ s ∈ spL off cs, SpOk s) (hLn : (spL off cs).length ≤ 65) (l : Int) (hl : nearT t = l) :
    Calls Try.prog 20 #[.agg #[.int .i64 off, .slice a n cap], .int .i64 t] w (InsR (iL l (spL off cs)).reverse w) := by
  obtain ⟨i0, hi0, hz0, hz1, hz2⟩ := info_parts infoInt
  refine (callsIn_wide (n := 8)).1 ?_
  refine callsIn_of_wp_marks Try.func20 rfl trivial ?_ rfl
  simp only [Try.ntmps20, List.size_toArray, List.length_cons, List.length_nil, Nat.reduceAdd, Nat.reduceSub, Array.replicate_succ, Array.replicate_zero, List.push_toArray, List.append_toArray, List.nil_append, List.cons_append]
  obtain ⟨l0, l1⟩ := nearT_bd t
  rw [hl] at l0 l1
  have HN := Lib.hid hl
  clear hl
  have HV := Lib.hid hv
  have V := Lib.hid (valid_any off a n cap cs (by omega))
  clear hv
  gi_wp2
  refine ⟨trivial, ?_⟩
  gi_at_call 10
  refine (callsIn_wide.2 (V.out _ ((hr.below (((Below.refl _ _).alloc (Nat.le_refl _) _).alloc (by simp) _)).mono (by simp; omega)))).mono ?_
  rw [HV.out]
  rintro e w1 ⟨rfl, hw1⟩
  have T1 := (two_new w off a n cap t).step hw1
  clear hw1
  have cz0 := T1.z.c0
  have cz1 := T1.z.c1
  have ct := T1.t.cell
  have ft := T1.t.frozen
  have hlt := T1.size
  have hlt0 : w.heap.size < w1.heap.size := by omega
  gi_wp2
  refine ⟨trivial, ?_⟩
  gi_at_call 34
  refine (callsIn_wide.2 (near_any t _)).mono ?_
  rw [HN.out]
  rintro e w' ⟨rfl, rfl⟩
  have T2 := T1.set l
  have hlt2 := T2.size
  have hlt20 : w.heap.size < (w1.setCell ⟨w.heap.size + 1, 0, none⟩ (.int .i64 l)).heap.size := by omega
  gi_wp2
  refine ⟨trivial, ?_⟩
  have hs2 : (w1.setCell ⟨w.heap.size + 1, 0, none⟩ (.int .i64 l)).heap.size = w1.heap.size := by simp [World.setCell]
  generalize (w1.setCell ⟨w.heap.size + 1, 0, none⟩ (.int .i64 l)) = w2 at *
  gi_at_call 35
  refine (spans_any rfl trivial _ _ _ _ _).mono ?_
  rintro e w' ⟨rfl, rfl⟩
  have T3 := (T2.step ((Below.refl _ _).alloc (Nat.le_refl _) (.cells #[.slice none 0 0] 33))).step ((Below.refl _ _).alloc (Nat.le_refl _) (.cells #[.int .i64 off, .slice a n cap] 24))
  have bO := (Boxed.new w2 33 (.slice none 0 0)).alloc (.cells #[.int .i64 off, .slice a n cap] 24)
  have bZ := ZBox.new (w2.alloc (.cells #[.slice none 0 0] 33)) off a n cap
  rw [World.size_alloc, hs2] at bZ
  rw [hs2] at bO
  have hs0 : ((w2.alloc (.cells #[.slice none 0 0] 33)).alloc (.cells #[.int .i64 off, .slice a n cap] 24)).heap.size = w1.heap.size + 2 := by simp [hs2]
  clear T1 T2 hlt2 hlt20 cz0 cz1 ct ft
  rw [World.size_alloc, hs2]
  clear hs2
  gi_wp2
  generalize ((w2.alloc (.cells #[.slice none 0 0] 33)).alloc (.cells #[.int .i64 off, .slice a n cap] 24)) = W0 at *
  have hr0 := hr.below T3.below
  have hs1 : w1.heap.size + 2 ≤ W0.heap.size := by omega
  have hs3 : W0.heap.size ≤ w1.heap.size + 2 := by omega
  clear hs0
  have hA := mineA_aside (n₀ := w.heap.size) (zb := w1.heap.size + 1) (D := W0.heap.size) (by omega) (by omega)
  refine range_law (c := 5) (L := spL off cs) (encs := encS) (mine := mineA w.heap.size (w1.heap.size + 1) (W0.heap.size + 7)) rfl rfl (gf := 44) (lb := #[.pointer (some ⟨w1.heap.size + 1, 0, none⟩)]) rfl trivial (enters_of Try.func44 (by kernel_rfl) rfl)
    (fun k o h1 h2 => hA.own k o h1 (by omega)) (spans_iter rfl rfl trivial trivial trivial (w1.heap.size + 1) w.heap.size off a n cap cs hn _ _ W0 bZ hr0 (by omega) (by omega) (by omega) hA) (fun _ => rfl)
    (fun pre W => (pre <+: spL off cs ∧ ∃ v, Boxed W w1.heap.size 33 v ∧ W.ownsRow (W0.heap.size + 7) 3 1 v (iL l pre).length ((iL l pre).map (Value.int .i64))) ∧ Boxed W (w.heap.size + 1) 3 (.int .i64 l) ∧ Below w.heap.size w W)
    (fun _ _ _ => False)
    (Ab.and (Ab.and (ab_pure _ _ _) (ab_holds (fun pre => (iL l pre).length) (fun pre => (iL l pre).map (Value.int .i64)) (by omega) (by omega))) (Ab.and (ab_boxed _ _ (.inl (by omega))) (ab_below (Nat.le_refl _) (by omega))))
    (fun c => ab_false _ _)
    ⟨⟨List.nil_prefix, _, bO, World.ownsRow_nil _ _ _ _⟩, T3.t, T3.below⟩
    (fun x a' W => ∃ Bx, W0.heap.size + 7 ≤ Bx ∧ SBox W Bx x ∧ a' = { tmps := #[.agg #[.int .i64 off, .slice a n cap], .int .i64 t, .pointer (some ⟨w.heap.size, 0, none⟩), .pointer (some ⟨w.heap.size + 1, 0, none⟩), .slice none 0 0, .int .i64 0, .int .i64 0, .pointer (some ⟨w1.heap.size, 0, none⟩), .pointer (some ⟨Bx, 0, none⟩), undef, .agg #[.int .i64 off, .slice a n cap], .int .i64 0, .int .i64 0, .bool false, undef, .int .i64 t, .int .i64 l, .agg #[.int .i64 off, .slice a n cap], .func (.func 44) #[] #[.pointer (some ⟨w1.heap.size + 1, 0, none⟩)], .agg #[.int .i64 x.1, .int .i64 x.2.1, .int .i64 x.2.2], undef, undef, undef, undef, undef, undef, undef, undef, undef, undef, undef, undef, undef, undef, undef, undef, undef, undef, undef, undef, undef], defers := [] })
    (fun x a' s X Y row hs hg hr => by obtain ⟨Bx, h1, h2, h3⟩ := hs; exact ⟨Bx, h1, ab_sbox (β := Unit) x (by omega) () X Y row h2 hg hr, h3⟩)
    ?assign ?body ?done ?stop
  case assign =>
    rintro pre x W K ⟨⟨hp, v, hv, hrow⟩, bt1, hB1⟩ hpre hbig hK
    dsimp only [encS]
    gi_wp2
    exact hK _ _ (KeepsBut.alloc _ _) ⟨⟨hp, v, hv.alloc _, hrow.alloc _⟩, bt1.alloc _, hB1.alloc (by omega) _⟩ ⟨W.heap.size, by omega, SBox.new W x, rfl⟩
  case body =>
    rintro pre x a' W ⟨⟨hp, v, hv, hrow⟩, bt1, hB1⟩ ⟨Bx, hBx, bX, rfl⟩ hpre hbig
    obtain ⟨x0, x1, x2, x3, x4⟩ := hL x (mem_of_pre hpre)
    have hpl : (iL l pre).length + 1 ≤ 65 := by
      have h1 := iL_length l pre
      have h2 := hpre.length_le
      simp at h2
      omega
    have hst := iL_snoc l pre x
    have ct := bt1.cell
    have cv := hv.cell
    have c0 := bX.c0
    have c1 := bX.c1
    have c2 := bX.c2
    generalize iL l pre = xs at *
    have HS := Lib.hid hst
    have HP := Lib.hid hpre
    have hW : W0.heap.size + 7 ≤ W.heap.size := by omega
    clear hst hpre hbig hL hp hLn
    by_cases h1 : x.1 ≤ l - x.2.2
    · by_cases h2 : l - x.2.2 < x.2.1
      · gi_wp2_with (gi_at_builtin; refine wpListIn_append_own _ rfl _ _ 33 rfl (W0.heap.size + 7) 3 i0 (.int .i64 0) 1 8 Try.underlying33 hi0 hz0 hz1 hz2 rfl (by decide) _ _ _ rfl (hrow.alloc _) ⟨W.heap.size, 0, none⟩ 1 1 [.int .i64 (l - x.2.2)] rfl rfl (cell_one_new _ _ _) (by simp [Value.oneCell']) (by unfold maxLen; omega) (by omega) (by simp; omega) ?_; intro v' w3 hown' hgrow _; obtain ⟨g', cap', rfl⟩ := ownsRow_succ hown'; obtain ⟨hv1, hv2, hr2, hk2, ho2, hb2⟩ := app_step hv (by decide) hrow hown' hgrow (mine := mineA w.heap.size (w1.heap.size + 1) (W0.heap.size + 7)) (fun _ => .inl ⟨by omega, by omega⟩) (fun k vs fz hk => .inr ⟨hk, vs, fz, rfl⟩); have hc1 := hv1.cell; have hf1 := hv1.frozen)
        exact ⟨hk2, ⟨HP.out, _, hv2, by rw [HS.out, if_pos ⟨h1, h2⟩]; simpa using hr2⟩, ho2 _ _ _ bt1 (by omega) (by omega), hb2 _ _ hB1 (Nat.le_refl _) (by omega) (by omega)⟩
      · gi_wp2
        exact ⟨KeepsBut.refl _ _, ⟨HP.out, v, hv, by rw [HS.out, if_neg (by omega), List.append_nil]; exact hrow⟩, bt1, hB1⟩
    · gi_wp2
      exact ⟨KeepsBut.refl _ _, ⟨HP.out, v, hv, by rw [HS.out, if_neg (by omega), List.append_nil]; exact hrow⟩, bt1, hB1⟩
  case done =>
    rintro W hbig ⟨⟨_, v, hv, hrow⟩, bt1, hB1⟩ hK
    have hpl : (iL l (spL off cs)).length ≤ 65 := Nat.le_trans (iL_length _ _) hLn
    have cv := hv.cell
    obtain ⟨xs, hxs⟩ : ∃ xs, iL l (spL off cs) = xs := ⟨_, rfl⟩
    rw [hxs] at hrow hpl
    have HX := Lib.hid hxs
    clear hxs
    gi_wp2
    refine ⟨trivial, ?_⟩
    gi_at_call 36
    refine (callsIn_wide.2 (rev_own W (W0.heap.size + 7) xs.length v xs rfl hrow (by omega))).mono ?_
    rintro e w4 ⟨rfl, hb4, hr4, hk4⟩
    have hv4 : Boxed w4 w1.heap.size 33 v := ((hb4 (w1.heap.size + 1) W (Below.refl _ _) (by omega)).block w1.heap.size (by omega)).trans hv
    have hK4 := hk4.same _ _ hK rfl
    have cv4 := hv4.cell
    have hB4 := hb4 w.heap.size w hB1 (by omega)
    clear cv hv
    gi_wp2
    refine ⟨by simp, .inl ⟨_, _, rfl, run_takeDeferred hK4, ?_⟩⟩
    refine ⟨.tuple #[v, .int .i64 0], by simp [results, Try.f20, go_sem], v, rfl, ?_, hB4.trans (belowK_b (w := w) (Nat.le_refl _) w4 W0.heap.size _ _ (by omega) hK4 rfl rfl)⟩
    rw [HX.out]
    have := ownsRow_le (ownsRow_putObj hr4 (.deferred none) hK4 rfl) (base' := w.heap.size) (by omega)
    rw [List.length_reverse]; exact this
  case stop =>
    rintro c pre W hpre h hK
    exact h.elim
theorem spL_len {off : Int} {cs : List (Int × Int)} (h : vE off cs = 0) : (spL off cs).length ≤ 65 := by
  have h1 := vE_len h
  have h2 : ∀ (to : Int) (r : List (Int × Int)), (spP to r).length = r.length := by
    intro to r
    induction r generalizing to with
    | nil => rfl
    | cons c r ih => simp [spP, ih]
  have h3 : (lastP (toO END cs.reverse) off).length ≤ 1 := by unfold lastP; split <;> simp
  rw [spL_eq, List.length_append, h2, List.length_reverse]
  omega
theorem instants_ok (off : Int) (a : Option Addr) (n cap : Nat) (cs : List (Int × Int)) (t : Int) (hn : n ≤ 64) (w : World) (hr : ChRow w w.heap.size a n cs) (hv : vE off cs = 0) :
    Calls Try.prog 20 #[.agg #[.int .i64 off, .slice a n cap], .int .i64 t] w (InsR (iL (nearT t) (spL off cs)).reverse w) := instants_at off a n cap cs t hn w hr hv (spL_ok hv) (spL_len hv) _ rfl
end Go.Proofs.Ytbbfkpkibakieaa
