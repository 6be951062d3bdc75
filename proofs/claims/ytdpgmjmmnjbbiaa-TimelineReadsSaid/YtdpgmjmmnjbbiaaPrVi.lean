/-
  Layer 6 (timeline): the contract of Slices. Condition: the list reads as changes.
-/
import Derived.Test.YtdpgmjmmnjbbiaaPrVh
namespace Go.Proofs.Ytdpgmjmmnjbbiaa.Tl
open Go Go.RowKit Go.Lib Go.Sort Go.Shelf Go.Proofs Go.Proofs.Ytdpgmjmmnjbbiaa Go.Proofs.Ytdpgmjmmnjbbiaa.Tp
attribute [local go_sem] Oper.semAt_some
set_option linter.unusedVariables false

theorem ownsRow_le {w : World} {base base' : Nat} {e : TypeId} {size : Nat} {v : Value} {k : Nat} {xs : List Value} (h : w.ownsRow base e size v k xs) (hb : base' ≤ base) : w.ownsRow base' e size v k xs := by
  refine ⟨h.1, h.2.imp id ?_⟩
  rintro ⟨g, cap, cur, h1, h2, h3⟩
  exact ⟨g, cap, cur, h1, Nat.le_trans hb h2, h3⟩
/-- A variable's box that holds a row of the call's own abides. -/
theorem ab_holds {β : Type} {lo hi B base : Nat} {t e : TypeId} {size : Nat} (k : β → Nat) (f : β → List Value) (hB : B < lo) (hb : hi ≤ base) : Ab lo hi (fun s W => ∃ v, Boxed W B t v ∧ W.ownsRow base e size v (k s) (f s)) := by
  rintro s X Y row ⟨v, hv, hr⟩ hg hrow
  refine ⟨v, ab_boxed (β := Unit) t (fun _ => v) (.inl hB) () X Y row hv hg hrow, hr.kept hg ?_⟩
  rcases hr.2 with ⟨rfl, _⟩ | ⟨g, cap, cur, rfl, h2, h3, _⟩
  · exact .inl rfl
  · refine .inr fun e' => ?_
    have e2 : row = some g := by simpa [Value.ownBlock] using e'.symm
    obtain ⟨h4, h5⟩ := hrow g e2
    rcases h5 with h5 | ⟨o, ho, hc⟩
    · omega
    · rw [h3] at ho; cases ho; cases hc
/-- 'l = append(l, ..)' in a round: what the walk owes. -/
theorem app_step {W w1 : World} {base B : Nat} {t e : TypeId} {size : Nat} {v v' : Value} {k m : Nat} {xs ys : List Value} {tmp : Obj} {mine : Nat → Obj → Prop}
    (hv : Boxed W B t v) (hte : t ≠ e) (hrow : W.ownsRow base e size v k xs) (hown' : w1.ownsRow base e size v' m ys) (hgrow : (W.alloc tmp).grownBy w1 v.ownBlock)
    (hmB : ∀ o, mine B o) (hmR : ∀ k vs fz, base ≤ k → mine k (.cells vs e fz)) :
    Boxed w1 B t v ∧ Boxed (w1.setCell ⟨B, 0, none⟩ v') B t v' ∧ (w1.setCell ⟨B, 0, none⟩ v').ownsRow base e size v' m ys ∧ KeepsBut mine W (w1.setCell ⟨B, 0, none⟩ v') ∧
    (∀ B' t' u, Boxed W B' t' u → B' < base → B' ≠ B → Boxed (w1.setCell ⟨B, 0, none⟩ v') B' t' u) ∧ (∀ n₀ w₀, Below n₀ w₀ W → n₀ ≤ w₀.heap.size → n₀ ≤ B → n₀ ≤ base → Below n₀ w₀ (w1.setCell ⟨B, 0, none⟩ v')) := by
  have hv1 : Boxed w1 B t v := (hv.alloc tmp).kept hgrow (hv.not_row hte hrow)
  have own : ∀ j, v.ownBlock = some j → base ≤ j ∧ ∃ vs fz, (W.alloc tmp).heap[j]? = some (.cells vs e fz) := fun j ej => by
    rcases (hrow.alloc tmp).2 with ⟨rfl, _⟩ | ⟨g, cap, cur, rfl, hb, hgb, _⟩
    · simp [Value.ownBlock] at ej
    · obtain rfl : g = j := by simpa [Value.ownBlock] using ej
      exact ⟨hb, _, _, hgb⟩
  refine ⟨hv1, hv1.set v', hown'.kept (grownBy_setCell' w1 B v') (.inr (hv1.not_row hte hown').symm), ?_, ?_, ?_⟩
  · refine ((KeepsBut.alloc W tmp).trans (KeepsBut.grown hgrow fun j o ej hj => ?_)).trans (KeepsBut.setCell _ _ _ fun o _ => hmB o)
    obtain ⟨h1, vs, fz, h2⟩ := own j ej
    rw [h2] at hj; cases hj
    exact hmR j vs fz h1
  · intro B' t' u hu ht' hne
    exact ((hu.alloc tmp).kept hgrow (fun e' => by have := (own B' e'.symm).1; omega)).other hne v'
  · intro n₀ w₀ hb hn hB hbase
    refine ((hb.alloc (Nat.le_trans hn hb.size) tmp).grown hgrow (by have := hb.size; simp; omega) fun j ej => ?_).setCell (p := ⟨B, 0, none⟩) hB v'
    have := (own j ej).1
    omega


/-- A box of one change, whole. -/
def CB (W : World) (b : Nat) (c : Chg) : Prop := W.heap[b]? = some (.cells #[.int .i64 c.fr, .int .i64 c.kn, .int .i64 c.va, .bool c.de] 42 (0, 0))
theorem CB.c0 {w : World} {b : Nat} {c : Chg} (h : CB w b c) : w.cell? ⟨b, 0, none⟩ = some (.int .i64 c.fr) := by simp [World.cell?, show w.heap[b]? = _ from h]
theorem CB.c2 {w : World} {b : Nat} {c : Chg} (h : CB w b c) : w.cell? ⟨b, 2, none⟩ = some (.int .i64 c.va) := by simp [World.cell?, show w.heap[b]? = _ from h]
theorem CB.new (w : World) (c : Chg) : CB (w.alloc (.cells #[.int .i64 c.fr, .int .i64 c.kn, .int .i64 c.va, .bool c.de] 42)) w.heap.size c := World.alloc_heap_new w _
theorem ab_cb {β : Type} {lo hi B : Nat} (c : Chg) (hB : hi ≤ B) : Ab lo hi (fun (_ : β) W => CB W B c) := fun _ X Y row hs hg hr => by
  have hlt : B < X.heap.size := (Array.getElem?_eq_some_iff.1 hs).1
  refine (hg.block B hlt (fun e => ?_)).trans hs
  obtain ⟨h1, h2⟩ := hr B e.symm
  rcases h2 with h2 | ⟨o, ho, hc⟩
  · omega
  · rw [show X.heap[B]? = _ from hs] at ho; cases ho; cases hc
theorem three_new (W : World) (t : TypeId) (x y z : Int) : ∀ j v, ([.int .i64 x, .int .i64 y, .int .i64 z] : List Value)[j]? = some v → (W.alloc (.cells #[.int .i64 x, .int .i64 y, .int .i64 z] t)).cell? ((⟨W.heap.size, 0, none⟩ : Addr).add j) = some v := by
  intro j v hv
  rcases j with _ | _ | _ | j
  · have e : v = .int .i64 x := by simpa using hv.symm
    subst e; go_simp
  · have e : v = .int .i64 y := by simpa using hv.symm
    subst e; go_simp
  · have e : v = .int .i64 z := by simpa using hv.symm
    subst e; go_simp
  · simp at hv
theorem CB.grown {W W' : World} {b base n : Nat} {c : Chg} {v : Value} {xs : List Value} {o : Obj} (h : CB W b c) (hrow : W.ownsRow base 54 3 v n xs) (hg : (W.alloc o).grownBy W' v.ownBlock) : CB W' b c := by
  have hlt : b < W.heap.size := (Array.getElem?_eq_some_iff.1 h).1
  have h1 : CB (W.alloc o) b c := (Below.heap_alloc W o _ hlt).trans h
  refine (hg.block b (by simp; omega) (fun e => ?_)).trans h1
  rcases hrow.2 with ⟨rfl, _⟩ | ⟨g, cap, cur, rfl, _, hgb, _⟩
  · simp [Value.ownBlock] at e
  · obtain rfl : g = b := by simpa [Value.ownBlock] using e.symm
    rw [show W.heap[g]? = _ from h] at hgb
    cases hgb
def mineS (P hi : Nat) : Nat → Obj → Prop := fun k o => (P ≤ k ∧ k < P + 2) ∨ (hi ≤ k ∧ ∃ vs fz, o = .cells vs 54 fz)
set_option maxRecDepth 100000 in
set_option maxHeartbeats 16000000 in
theorem slices_ok (a : Option Addr) (n cap : Nat) (cs : List Chg) (kk fr td : Int) (w : World) (h : Lst w a n cap cs) (hok : chkE cs fr td = 0) :
    Calls Try.prog 19 #[.slice a n cap, .int .i64 kk, .int .i64 fr, .int .i64 td] w (SlsR cs kk fr td w) := by
  obtain ⟨i0, hi0, hz0, hz1, hz2⟩ := info3
  have CK := Lib.hid (fun W (hW : Lst W a n cap cs) => chk_any a n cap cs fr td W hW)
  rw [hok] at CK
  unfold ErrR at CK
  obtain ⟨v0, f0, ft, t1⟩ := chkE_ok hok
  have n2 : n ≤ 1024 := by rw [← h.1.1]; exact (valE_ok v0).1
  have OKC := Lib.hid (fun c hc => (valE_ok v0).2 c hc)
  have EA := Lib.hid (show slcA cs kk fr td = slcL cs kk fr td from if_pos hok)
  have EC := Lib.hid hok
  have CS := Lib.hid (fun W (hW : Lst W a n cap cs) => steps_any a n cap cs kk (by omega) W hW)
  unfold StepR at CS
  have H := Lib.hid h
  clear h hok v0
  refine (callsIn_wide (n := 8)).1 ?_
  refine callsIn_of_wp_marks Try.func19 rfl trivial ?_ rfl
  simp only [Try.ntmps19, List.size_toArray, List.length_cons, List.length_nil, Nat.reduceAdd, Nat.reduceSub, Array.replicate_succ, Array.replicate_zero, List.push_toArray, List.append_toArray, List.nil_append, List.cons_append]
  gi_wp2
  refine ⟨trivial, ?_⟩
  gi_at_call 36
  refine (callsIn_wide.2 (CK.out _ (H.out.more (((Below.refl _ _).alloc (Nat.le_refl _) _).alloc (by simp) _)))).mono ?_
  rintro e w1 ⟨rfl, b1⟩
  have F1 : Boxed w1 w.heap.size 3 (.int .i64 fr) := (b1.block _ (by simp <;> omega)).trans ((Boxed.new w 3 (.int .i64 fr)).alloc _)
  have T1 : Boxed w1 (w.heap.size + 1) 3 (.int .i64 td) := (b1.block _ (by simp <;> omega)).trans (by have := Boxed.new (w.alloc (.cells #[.int .i64 fr] 3)) 3 (.int .i64 td); rwa [World.size_alloc] at this)
  have B1 : Below w.heap.size w w1 := (((Below.refl w.heap.size w).alloc (Nat.le_refl _) (.cells #[.int .i64 fr] 3)).alloc (by simp) (.cells #[.int .i64 td] 3)).trans (b1.mono (by simp <;> omega))
  have s1 : w.heap.size + 2 ≤ w1.heap.size := by have := b1.size; simp at this; omega
  clear b1 CK
  have cT := T1.cell
  have lT : w.heap.size + 1 < w1.heap.size := by omega
  gi_wp2
  refine ⟨trivial, ?_⟩
  gi_at_call 33
  refine (callsIn_wide.2 (CS.out _ (H.out.more (((B1.alloc (by omega) (.cells #[.slice none 0 0] 46)).alloc (by simp; omega) (.cells #[.int .i64 td] 3)))))).mono ?_
  rintro e w2 ⟨x2, c2, rfl, r2, b2, fr2, q2⟩
  have m2 : (stepsL cs kk).length ≤ 1024 := by have := stepsL_length cs kk; have := H.out.1.1; omega
  have F2 : Boxed w2 w.heap.size 3 (.int .i64 fr) := (b2.block _ (by simp; omega)).trans ((F1.alloc _).alloc _)
  have T2 : Boxed w2 (w.heap.size + 1) 3 (.int .i64 td) := (b2.block _ (by simp; omega)).trans ((T1.alloc _).alloc _)
  have P2 : Boxed w2 w1.heap.size 46 (.slice none 0 0) := (b2.block _ (by simp <;> omega)).trans ((Boxed.new w1 46 (.slice none 0 0)).alloc _)
  have L2 : Boxed w2 (w1.heap.size + 1) 3 (.int .i64 td) := (b2.block _ (by simp <;> omega)).trans (by have := Boxed.new (w1.alloc (.cells #[.slice none 0 0] 46)) 3 (.int .i64 td); rwa [World.size_alloc] at this)
  have B2 : Below w.heap.size w w2 := ((B1.alloc (by omega) (.cells #[.slice none 0 0] 46)).alloc (by simp; omega) (.cells #[.int .i64 td] 3)).trans (b2.mono (by simp; omega))
  have s2 : w1.heap.size + 2 ≤ w2.heap.size := by have := b2.size; simp at this; omega
  have fr3 : ∀ x, x2 = some x → w1.heap.size + 2 ≤ x.block := fun x hx => by have := fr2 x hx; simp at this; omega
  have ES := Lib.hid (sl_steps cs kk fr td)
  have SO : Hid (∀ c ∈ stepsL cs kk, okC c) := Lib.hid fun c hc => OKC.out c (mem_stepsL cs kk c hc)
  clear b2 fr2 q2 CS OKC F1 T1 B1 cT H
  generalize stepsL cs kk = st at *
  generalize hm : st.length = m at *
  have HM := Lib.hid hm
  clear hm
  gi_wp2
  refine ⟨trivial, ?_⟩
  gi_at_call 37
  refine (back_any rfl trivial _ _ _ _).mono ?_
  rintro e w' ⟨rfl, rfl⟩
  have F3 := F2.alloc (.cells #[.slice x2 m c2] 23)
  have T3 := T2.alloc (.cells #[.slice x2 m c2] 23)
  have P3 := P2.alloc (.cells #[.slice x2 m c2] 23)
  have L3 := L2.alloc (.cells #[.slice x2 m c2] 23)
  have S3 := Boxed.new w2 23 (.slice x2 m c2)
  have B3 := B2.alloc B2.size (.cells #[.slice x2 m c2] 23)
  have R3 : ChgRow (w2.alloc (.cells #[.slice x2 m c2] 23)) w2.heap.size x2 m st := r2.below ((Below.refl _ _).alloc (Nat.le_refl _) _)
  have s3 : (w2.alloc (.cells #[.slice x2 m c2] 23)).heap.size = w2.heap.size + 1 := by simp
  clear F2 T2 P2 L2 B2 r2
  gi_wp2
  generalize w2.alloc (.cells #[.slice x2 m c2] 23) = W0 at *
  generalize w2.heap.size = z2 at *
  have s3a : z2 + 1 ≤ W0.heap.size := by omega
  have s3b : W0.heap.size ≤ z2 + 1 := by omega
  clear s3
  generalize w1.heap.size = z1 at *
  refine range_law (c := 0) (L := bkL st) (encs := encB) (mine := mineS z1 (W0.heap.size + 2)) rfl rfl (gf := 60) (lb := #[.pointer (some ⟨z2, 0, none⟩)]) rfl trivial (enters_of Try.func60 (by kernel_rfl) rfl)
    (fun k o h1 h2 => by rintro (h | h) <;> omega) (back_iter rfl rfl trivial z2 z2 x2 m c2 st (by omega) W0.heap.size _ W0 S3 R3 (by omega) (fun o => by rintro (h | h) <;> omega) (by omega) (fun hpos o x hx => by have := fr3 x hx; obtain ⟨y, hy, hb, _⟩ := R3.2 hpos; rw [hx] at hy; injection hy with hy; subst hy; rintro (h | h) <;> omega) (by omega)) (fun _ => rfl)
    (fun pre W => (pre <+: bkL st ∧ ∃ v, Boxed W z1 46 v ∧ W.ownsRow (W0.heap.size + 2) 54 3 v (pr fr td pre).length (fl3 (pr fr td pre))) ∧ Boxed W (z1 + 1) 3 (.int .i64 (lastOf td (rs pre))) ∧ Boxed W w.heap.size 3 (.int .i64 fr) ∧ Boxed W (w.heap.size + 1) 3 (.int .i64 td) ∧ Below w.heap.size w W)
    (fun _ _ _ => False)
    (Ab.and (Ab.and (ab_pure _ _ _) (ab_holds (fun pre => (pr fr td pre).length) (fun pre => fl3 (pr fr td pre)) (by omega) (by omega))) (Ab.and (ab_boxed 3 (fun pre => .int .i64 (lastOf td (rs pre))) (.inl (by omega))) (Ab.and (ab_boxed _ _ (.inl (by omega))) (Ab.and (ab_boxed _ _ (.inl (by omega))) (ab_below (Nat.le_refl _) (by omega))))))
    (fun c => ab_false _ _)
    ⟨⟨List.nil_prefix, _, P3, World.ownsRow_nil _ _ _ _⟩, L3, F3, T3, B3⟩
    (fun x a' W => ∃ Bx, W0.heap.size + 2 ≤ Bx ∧ CB W Bx x.2 ∧ a' = { tmps := #[.slice a n cap, .int .i64 kk, .int .i64 fr, .int .i64 td, undef, undef, .pointer (some ⟨w.heap.size, 0, none⟩), .pointer (some ⟨w.heap.size + 1, 0, none⟩), .slice none 0 0, .int .i64 0, .int .i64 0, .pointer (some ⟨z1, 0, none⟩), .pointer (some ⟨z1 + 1, 0, none⟩), undef, .pointer (some ⟨Bx, 0, none⟩), undef, .slice a n cap, .int .i64 fr, .int .i64 td, .int .i64 0, .int .i64 0, .bool false, undef, .int .i64 td, .slice a n cap, .int .i64 kk, .slice x2 m c2, .func (.func 60) #[] #[.pointer (some ⟨z2, 0, none⟩)], .int .i64 x.1, .agg #[.int .i64 x.2.fr, .int .i64 x.2.kn, .int .i64 x.2.va, .bool x.2.de], undef, undef, undef, undef, undef, undef, undef, undef, undef, undef, undef, undef, undef, undef, undef, undef, undef, undef, undef, undef, undef, undef, undef], defers := [] })
    (fun x a' s X Y row hs hg hr => by obtain ⟨Bx, h1, h2, h3⟩ := hs; exact ⟨Bx, h1, ab_cb (β := Unit) x.2 (by omega) () X Y row h2 hg hr, h3⟩)
    ?assign ?body ?done ?stop
  case assign =>
    rintro pre x W K ⟨⟨hp, v, hv, hrow⟩, bl, bf, bt, hB⟩ hpre hbig hK
    dsimp only [encB]
    gi_wp2
    exact hK _ _ (KeepsBut.alloc _ _) ⟨⟨hp, v, hv.alloc _, hrow.alloc _⟩, bl.alloc _, bf.alloc _, bt.alloc _, hB.alloc (by have := hB.size; omega) _⟩ ⟨W.heap.size, by omega, CB.new W x.2, rfl⟩
  case body =>
    rintro pre x a' W ⟨⟨hp, v, hv, hrow⟩, bl, bf, bt, hB⟩ ⟨Bx, hBx, bX, rfl⟩ hpre hbig
    have hmem : x.2 ∈ st := by
      have h1 : x ∈ bkL st := hpre.subset (by simp)
      have h2 : x.2 ∈ (bkL st).map (·.2) := List.mem_map.2 ⟨x, h1, rfl⟩
      rw [bkL_snd] at h2
      simpa using h2
    obtain ⟨o0, o1, _⟩ := SO.out _ hmem
    have hpl : (pr fr td pre).length ≤ 1024 := by
      have h1 := pr_len fr td (rs pre)
      have h2 := hpre.length_le
      rw [rs_len] at h1
      rw [bkL_length] at h2
      simp at h2
      have := HM.out
      unfold pr
      rw [List.length_reverse]
      omega
    have hst := pr_snoc fr td pre x
    have hla : lastOf td (rs (pre ++ [x])) = min td (x.2.fr - 1) := by rw [rs_snoc]; rfl
    have cf := bf.cell
    have ct := bt.cell
    have cl := bl.cell
    have cv := hv.cell
    have c0 := bX.c0
    have c2' := bX.c2
    have wf : IntKind.i64.wrap (x.2.fr - 1) = x.2.fr - 1 := by rw [IntKind.wrap_i64]; omega
    generalize pr fr td pre = xs at *
    generalize lastOf td (rs pre) = la at *
    have HS := Lib.hid hst
    have HLA := Lib.hid hla
    have HP := Lib.hid hpre
    have hW : W0.heap.size + 2 ≤ W.heap.size := by omega
    have hlz1 : W.frozen? ⟨z1, 0, none⟩ = false := hv.frozen
    have hlz2 : W.frozen? ⟨z1 + 1, 0, none⟩ = false := bl.frozen
    clear hst hpre hbig hp hmem hla
    by_cases h1 : max fr x.2.fr ≤ la
    · have tl : decide (max fr x.2.fr ≤ la) = true := decide_eq_true h1
      gi_wp2_with (gi_at_builtin; refine wpListIn_append_own _ rfl _ _ 46 rfl (W0.heap.size + 2) 54 i0 (.agg #[.int .i64 0, .int .i64 0, .int .i64 0]) 3 24 Try.underlying46 hi0 hz0 hz1 hz2 rfl (by decide) _ _ _ rfl (hrow.alloc _) ⟨W.heap.size, 0, none⟩ 1 1 [.int .i64 (max fr x.2.fr), .int .i64 la, .int .i64 x.2.va] rfl rfl (three_new _ _ _ _ _) (by simp [Value.oneCell']) (by unfold maxLen; omega) (by omega) (by simp; omega) ?_; intro v' w3 hown' hgrow _; obtain ⟨g', cap', rfl⟩ := ownsRow_succ hown'; have hf3 := (bt.alloc (.cells #[.int .i64 (max fr x.2.fr), .int .i64 la, .int .i64 x.2.va] 54)).kept hgrow (bt.not_row (by decide) hrow); have hl3 := (bl.alloc (.cells #[.int .i64 (max fr x.2.fr), .int .i64 la, .int .i64 x.2.va] 54)).kept hgrow (bl.not_row (by decide) hrow); have hx3 := bX.grown hrow hgrow; obtain ⟨hv1, hv2, hr2, hk2, ho2, hb2⟩ := app_step hv (by decide) hrow hown' hgrow (mine := mineS z1 (W0.heap.size + 2)) (fun _ => .inl ⟨by omega, by omega⟩) (fun k vs fz hk => .inr ⟨hk, vs, fz, rfl⟩); have hc1 := hv1.cell; have hf1 := hv1.frozen; have dt3 := hf3.cell; have dl3 := hl3.cell; have dz3 := hl3.frozen; have dx3 := hx3.c0)
      have ql : Boxed (w3.setCell ⟨z1, 0, none⟩ (.slice (some ⟨g', 0, none⟩) ((xs.length + 1)) cap')) (z1 + 1) 3 (.int .i64 la) := hl3.other (by omega) _
      refine ⟨hk2.trans (KeepsBut.setCell _ _ _ (fun o _ => .inl ⟨by omega, by omega⟩)), ⟨HP.out, _, hv2.other (by omega) _, ?_⟩, by rw [HLA.out]; exact ql.set _, (ho2 _ _ _ bf (by omega) (by omega)).other (by omega) _, (ho2 _ _ _ bt (by omega) (by omega)).other (by omega) _, (hb2 _ _ hB (Nat.le_refl _) (by omega) (by omega)).setCell (p := ⟨z1 + 1, 0, none⟩) (by show w.heap.size ≤ z1 + 1; omega) _⟩
      rw [HS.out, show part (max fr x.2.fr) la x.2.va = [⟨max fr x.2.fr, la, x.2.va⟩] from if_pos h1]
      have := hr2.kept (grownBy_setCell' _ (z1 + 1) (.int .i64 (min td (x.2.fr - 1)))) (.inr (ql.not_row (by decide) hr2).symm)
      rw [List.length_append, fl3_app]
      exact this
    · have tl : decide (max fr x.2.fr ≤ la) = false := decide_eq_false h1
      gi_wp2
      refine ⟨KeepsBut.setCell _ _ _ (fun o _ => .inl ⟨by omega, by omega⟩), ⟨HP.out, v, hv.other (by omega) _, ?_⟩, by rw [HLA.out]; exact bl.set _, bf.other (by omega) _, bt.other (by omega) _, hB.setCell (p := ⟨z1 + 1, 0, none⟩) (by show w.heap.size ≤ z1 + 1; omega) _⟩
      rw [HS.out, show part (max fr x.2.fr) la x.2.va = [] from if_neg (by omega), List.append_nil]
      exact hrow.kept (grownBy_setCell' W _ _) (.inr (bl.not_row (by decide) hrow).symm)
  case done =>
    rintro W hbig ⟨⟨_, v, hv, hrow⟩, bl, bf, bt, hB⟩ hK
    have hpr : pr fr td (bkL st) = (slcL cs kk fr td).reverse := by unfold pr; rw [rs_all, ES.out]
    have hzl : (slcL cs kk fr td).length ≤ 1024 := by
      rw [← ES.out]
      have := pr_len fr td st
      have := HM.out
      omega
    rw [hpr, List.length_reverse] at hrow
    clear hpr ES bl bf bt
    generalize slcL cs kk fr td = zs at *
    have cv := hv.cell
    rcases hrow.2 with ⟨rfl, h0⟩ | ⟨g, cap', cur, rfl, hg, hgb, hgc, _, _, _⟩
    · have hz : zs = [] := List.length_eq_zero_iff.1 h0
      subst hz
      gi_wp2
      refine ⟨trivial, ?_⟩
      gi_at_call 38
      refine (callsIn_wide.2 (rev_slc_none 0 W)).mono ?_
      rintro e w4 ⟨rfl, rfl⟩
      gi_wp2
      refine ⟨by simp, .inl ⟨_, _, rfl, run_takeDeferred hK, ?_⟩⟩
      refine ⟨.tuple #[.slice none 0 0, .int .i64 0], by simp [results, Try.f19, go_sem], none, 0, by rw [EA.out, EC.out]; rfl, by rw [EA.out]; exact fun h => absurd h (by simp), ?_⟩
      exact hB.trans (belowK_b (w := w) (Nat.le_refl _) _ W0.heap.size _ _ (by have := B3.size; omega) hK rfl rfl)
    · have HH := Lib.hid (own_holds hrow (by simp))
      have hgl := (Array.getElem?_eq_some_iff.1 hgb).1
      have CR := Lib.hid (rev_slc g cap' zs.reverse W HH.out (by simp; omega))
      rw [List.length_reverse, List.reverse_reverse] at CR
      gi_wp2
      refine ⟨trivial, ?_⟩
      gi_at_call 38
      refine (callsIn_wide.2 CR.out).mono ?_
      rintro e w4 ⟨rfl, hh, ho⟩
      have hv4 : Boxed w4 z1 46 _ := (ho.block z1 hv.lt (by omega)).trans hv
      have hK4 := (ho.block W0.heap.size (Array.getElem?_eq_some_iff.1 hK).1 (by omega)).trans hK
      have hB4 := hB.trans (ho.below (B := w.heap.size) (by have := B3.size; omega) hB.size)
      have cv4 := hv4.cell
      have HH4 := Lib.hid (holds_cells hh)
      have hs4 := ho.size
      clear cv hv hh CR HH hrow hgb
      gi_wp2
      refine ⟨by simp, .inl ⟨_, _, rfl, run_takeDeferred hK4, ?_⟩⟩
      refine ⟨.tuple #[.slice (some ⟨g, 0, none⟩) zs.length cap', .int .i64 0], by simp [results, Try.f19, go_sem], some ⟨g, 0, none⟩, cap', by rw [EA.out, EC.out], ?_, ?_⟩
      · rw [EA.out]
        intro hpos
        refine ⟨g, rfl, by have := B3.size; omega, by simp; omega, fun i hi => ?_⟩
        have hc := HH4.out i hi
        have key : ∀ j v, w4.cell? ⟨g, j, none⟩ = some v → (w4.putObj W0.heap.size (.deferred none)).cell? ⟨g, j, none⟩ = some v := fun j v hv => (World.cell?_of_block (a := ⟨g, j, none⟩) (World.putObj_heap_other (by show g ≠ _; omega))).trans hv
        exact ⟨key _ _ hc.1, key _ _ hc.2.1, key _ _ hc.2.2⟩
      · exact hB4.trans (belowK_b (w := w) (Nat.le_refl _) w4 W0.heap.size _ _ (by have := B3.size; omega) hK4 rfl rfl)
  case stop =>
    rintro c pre W hpre h hK
    exact h.elim
theorem slices_any (a : Option Addr) (n cap : Nat) (cs : List Chg) (kk fr td : Int) (w : World) (h : Lst w a n cap cs) :
    Calls Try.prog 19 #[.slice a n cap, .int .i64 kk, .int .i64 fr, .int .i64 td] w (SlsR cs kk fr td w) := by
  by_cases hok : chkE cs fr td = 0
  · exact slices_ok a n cap cs kk fr td w h hok
  · have CK := Lib.hid (fun W (hW : Lst W a n cap cs) => chk_any a n cap cs fr td W hW)
    have H := Lib.hid h
    have HE : Hid (∀ w' : World, Below w.heap.size w w' → SlsR cs kk fr td w (.returned (.tuple #[.slice none 0 0, .int .i64 (chkE cs fr td)])) w') := Lib.hid fun w' hb => sls_bad hok rfl hb
    have t0 : (chkE cs fr td != 0) = true := by simpa using hok
    unfold ErrR at CK
    clear h hok
    generalize chkE cs fr td = c at *
    go_enter Try.func19, Try.ntmps19
    go_wp2_with fail
    refine (CK.out _ (H.out.more (((Below.refl _ _).alloc (Nat.le_refl _) _).alloc (by simp) _))).mono ?_
    rintro e w1 ⟨rfl, b1⟩
    have B1 : Hid (Below w.heap.size w w1) := Lib.hid ((((Below.refl w.heap.size w).alloc (Nat.le_refl _) (.cells #[.int .i64 fr] 3)).alloc (by simp) (.cells #[.int .i64 td] 3)).trans (b1.mono (by simp <;> omega)))
    clear b1 CK H
    go_wp2_with fail
    go_ret2
    exact HE.out _ B1.out
end Go.Proofs.Ytdpgmjmmnjbbiaa.Tl
