/-
  Layer 6 (timeline): contracts of slices.Clone and BinarySearchFunc at changes, of steps and of value. Conditions: the list reads as changes; it is not too long.
-/
import Derived.Test.YtdpgmjmmnjbbiaaPrUe
import Derived.Laws.AppendOwn
import Derived.OwnWalk
import Derived.Laws.OwnMore
namespace Go.Proofs.Ytdpgmjmmnjbbiaa.Tl
open Go Go.RowKit Go.Lib Go.Sort Go.Shelf Go.Proofs Go.Proofs.Ytdpgmjmmnjbbiaa Go.Proofs.Ytdpgmjmmnjbbiaa.Tp
set_option linter.unusedVariables false

theorem infoC : (Try.prog.info? 42).map (fun i => (i.zero, i.size, i.bytes)) = some (some (.agg #[.int .i64 0, .int .i64 0, .int .i64 0, .bool false]), 4, 32) := by kernel_rfl
theorem info4 : ∃ i0 : TypeInfo, Try.prog.info? 42 = some i0 ∧ i0.zero = some (.agg #[.int .i64 0, .int .i64 0, .int .i64 0, .bool false]) ∧ i0.size = 4 ∧ i0.bytes = 32 := by
  obtain ⟨i0, hi, hz0, hz1, hz2⟩ := info_parts infoC
  exact ⟨i0, hi, hz0, hz1, hz2⟩
/-- The cells of a list of changes, one behind the other. -/
def fl (l : List Chg) : List Value := l.flatMap encC
theorem fl_len : ∀ l : List Chg, (fl l).length = l.length * 4
  | [] => rfl
  | c :: r => by
    have := fl_len r
    unfold fl at *
    rw [List.flatMap_cons, List.length_append, this]
    simp [encC]; omega
theorem fl_one (l : List Chg) : ∀ u ∈ fl l, u.oneCell' = true := by
  intro u hu
  obtain ⟨c, _, hc⟩ := List.mem_flatMap.1 hu
  exact encC_one c u hc
theorem fl_app (l m : List Chg) : fl (l ++ m) = fl l ++ fl m := List.flatMap_append
theorem fl_at : ∀ (l : List Chg) (i : Nat), i < l.length → (fl l)[i * 4]? = some (.int .i64 l[i]!.fr) ∧ (fl l)[i * 4 + 1]? = some (.int .i64 l[i]!.kn) ∧ (fl l)[i * 4 + 2]? = some (.int .i64 l[i]!.va) ∧ (fl l)[i * 4 + 3]? = some (.bool l[i]!.de)
  | [], i, h => by simp at h
  | x :: l, 0, _ => by simp [fl, encC]
  | x :: l, i + 1, h => by
    have := fl_at l i (by simpa using h)
    rw [show (i + 1) * 4 = i * 4 + 4 by omega]
    simpa [fl, encC] using this
theorem add_z (g m : Nat) : (⟨g, 0, none⟩ : Addr).add m = ⟨g, m, none⟩ := by rw [Addr.add_lit, Nat.zero_add]
/-- Cells that a list gives, at an address: the changes. -/
theorem cells_row {w : World} {x : Addr} {cs : List Chg} {n : Nat} (hl : cs.length = n) (h : ∀ i, i < n → At4 w (x.add (i * 4)) cs[i]!) : ∀ j u, (fl cs)[j]? = some u → w.cell? (x.add j) = some u := by
  intro j u hj
  have hlt : j < (fl cs).length := (List.getElem?_eq_some_iff.1 hj).1
  rw [fl_len] at hlt
  have hi : j / 4 < n := by omega
  obtain ⟨a0, a1, a2, a3⟩ := h _ hi
  obtain ⟨b0, b1, b2, b3⟩ := fl_at cs (j / 4) (by omega)
  have e : j = j / 4 * 4 + j % 4 := by omega
  have hm : j % 4 < 4 := by omega
  have ad : ∀ q r, 0 < r → x.add (q * 4 + r) = ⟨(x.add (q * 4)).block, (x.add (q * 4)).off + r, none⟩ := fun q r hr => by
    rw [← Addr.add_add]
    generalize x.add (q * 4) = y
    exact if_neg (by omega)
  generalize j % 4 = r at *
  generalize j / 4 = q at *
  subst e
  rcases r with _ | _ | _ | _ | r
  · rw [Nat.add_zero] at hj ⊢
    rw [b0] at hj; injection hj with hj; subst hj; exact a0
  · rw [ad q 1 (by omega)]
    rw [b1] at hj; injection hj with hj; subst hj; exact a1
  · rw [ad q 2 (by omega)]
    rw [b2] at hj; injection hj with hj; subst hj; exact a2
  · rw [ad q 3 (by omega)]
    rw [b3] at hj; injection hj with hj; subst hj; exact a3
  · omega
/-- A row that append has made, as a row of changes. -/
theorem own_row {w : World} {base g n cap : Nat} {cs : List Chg} (h : w.ownsRow base 42 4 (.slice (some ⟨g, 0, none⟩) n cap) n (fl cs)) (hl : cs.length = n) : RowC w g cs.toArray ∧ base ≤ g ∧ g < w.heap.size ∧ n ≤ cap := by
  rcases h.2 with ⟨e, _⟩ | ⟨g', cap', cur, e, hb, hg, hnc, _⟩
  · cases e
  · injection e with e1 e2 e3
    injection e1 with e1
    injection e1 with e1 _ _
    subst e1; subst e3
    refine ⟨⟨fun i hi => ?_, fun j hj => h.frozenAt j⟩, hb, (Array.getElem?_eq_some_iff.1 hg).1, hnc⟩
    have hi' : i < cs.length := by simpa using hi
    obtain ⟨b0, b1, b2, b3⟩ := fl_at cs i hi'
    have c := h.cells (g := g) rfl
    have c0 := c _ _ b0
    have c1 := c _ _ b1
    have c2 := c _ _ b2
    have c3 := c _ _ b3
    rw [add_z] at c0 c1 c2 c3
    rw [show cs.toArray[i]! = cs[i]! by rw [getElem!_pos cs.toArray i hi, getElem!_pos cs i hi']; simp]
    exact ⟨c0, c1, c2, c3⟩

/-- A row of the call's own, behind a call. -/
def OwnR (l : List Chg) (w : World) (e : Ending) (w' : World) : Prop := ∃ g cap, e = .returned (.slice (some ⟨g, 0, none⟩) l.length cap) ∧ RowC w' g l.toArray ∧ w.heap.size ≤ g ∧ g < w'.heap.size ∧ l.length ≤ cap ∧ Below w.heap.size w w'
set_option maxRecDepth 100000 in
set_option maxHeartbeats 2000000 in
theorem clone_some (x : Addr) (n cap : Nat) (cs : List Chg) (hn : n ≤ 1000000) (w : World) (hr : ChgRow w w.heap.size (some x) n cs) :
    Calls Try.prog 51 #[.slice (some x) n cap] w (OwnR cs w) := by
  obtain ⟨i0, hi0, hz0, hz1, hz2⟩ := info4
  have HQ := Lib.hid (And.intro hi0 (And.intro hz0 (And.intro hz1 hz2)))
  have HC : Hid (∀ j u, (fl cs)[j]? = some u → w.cell? (x.add j) = some u) := Lib.hid fun j u hj => by
    have hl := hr.1
    have : 0 < n := by
      have := (List.getElem?_eq_some_iff.1 hj).1
      rw [fl_len] at this; omega
    obtain ⟨y, hy, _, hc⟩ := hr.2 this
    injection hy with hy; subst hy
    exact cells_row hl hc j u hj
  have HL := Lib.hid hr.1
  clear hr hi0 hz0 hz1 hz2
  have q22 : ∀ (w : World) (a : Option Addr) (n c n' c' : Nat), (binOp .eql 23 (.slice a n c) (.slice none n' c')).run Try.prog w = .ok (.bool a.isNone) w := fun w a n c n' c' => Lib.run_eql_slice_nil w _ _ a n c n' c' Try.underlying23
  go_enter Try.func51, Try.ntmps51
  go_wp2_with (at_builtin; refine wpList_append_own _ rfl _ _ 23 rfl w.heap.size 42 i0 (.agg #[.int .i64 0, .int .i64 0, .int .i64 0, .bool false]) 4 32 Try.underlying23 HQ.out.1 HQ.out.2.1 HQ.out.2.2.1 HQ.out.2.2.2 rfl (by decide) _ _ _ rfl (World.ownsRow_made w #[] 0 (Nat.le_refl _) (Nat.zero_le _) (by simp)) x n cap (fl cs) rfl ?c1 ?c2 ?c3 ?c4 ?c5 ?c6 ?_)
  case c1 => rw [fl_len, HL.out]
  case c2 => intro j u hj; exact Lib.cell?_alloc_some _ (HC.out j u hj)
  case c3 => exact fl_one cs
  case c4 => unfold maxLen; omega
  case c5 => omega
  case c6 => simp
  intro v' w1 hown hgrow hnil
  go_wp2
  go_ret
  rcases hown.2 with ⟨rfl, _⟩ | ⟨g, cap', cur, rfl, hb, hg, hnc, _⟩
  · exact absurd rfl hnil
  · obtain ⟨r1, r2, r3, r4⟩ := own_row hown HL.out
    exact ⟨g, cap', retSl HL.out.symm, r1, r2, r3, by rw [HL.out]; exact r4, ((Below.refl _ w).alloc (Nat.le_refl _) _).grown hgrow (by simp) (by intro k hk; simp [Value.ownBlock] at hk; omega)⟩
set_option maxRecDepth 100000 in
set_option maxHeartbeats 1000000 in
theorem clone_none (w : World) : Calls Try.prog 51 #[.slice none 0 0] w fun e w' => e = .returned (.slice none 0 0) ∧ w' = w := by
  have q22 : ∀ (w : World) (a : Option Addr) (n c n' c' : Nat), (binOp .eql 23 (.slice a n c) (.slice none n' c')).run Try.prog w = .ok (.bool a.isNone) w := fun w a n c n' c' => Lib.run_eql_slice_nil w _ _ a n c n' c' Try.underlying23
  go_enter Try.func51, Try.ntmps51
  go_wp2
  go_ret
  exact ⟨rfl, rfl⟩

/-! ## The same at nothing -/
set_option maxHeartbeats 1000000 in
theorem idx_none (fv : Value) (w : World) : Calls Try.prog 74 #[.slice none 0 0, fv] w fun e w' => e = .returned (.int .i64 (-1)) ∧ w' = w := by
  go_enter Try.func74, Try.ntmps74
  go_wp2
  refine wp_loop_rounds 1 ?_
  rw [rounds_succ]
  go_wp2
  go_ret
  exact ⟨rfl, rfl⟩
set_option maxRecDepth 100000 in
set_option maxHeartbeats 1000000 in
theorem del_none (fv : Value) (w : World) : Calls Try.prog 50 #[.slice none 0 0, fv] w fun e w' => e = .returned (.slice none 0 0) ∧ w' = w := by
  go_enter Try.func50, Try.ntmps50
  go_wp2_with (go_at_call 74; refine (idx_none fv _).mono ?_; rintro e w' ⟨rfl, rfl⟩)
  go_ret
  exact ⟨rfl, rfl⟩
set_option maxRecDepth 100000 in
set_option maxHeartbeats 1000000 in
theorem cpf_none (fv : Value) (w : World) : Calls Try.prog 54 #[.slice none 0 0, fv] w fun e w' => e = .returned (.slice none 0 0) ∧ w' = w := by
  go_enter Try.func54, Try.ntmps54
  go_wp2
  go_ret
  exact ⟨rfl, rfl⟩
set_option maxHeartbeats 1000000 in
theorem cps_none (w : World) : Calls Try.prog 30 #[.slice none 0 0] w fun e w' => e = .returned (.slice none 0 0) ∧ w' = w := by
  go_enter Try.func30, Try.ntmps30
  go_wp2
  go_ret
  exact ⟨rfl, rfl⟩
theorem rev_none (w : World) : Calls Try.prog 57 #[.slice none 0 0] w fun e w' => e = .returned (.tuple #[]) ∧ w' = w :=
  @AnyQ.slices_Reverse_empty _ _ Try.revC none 0 w

/-! ## In lists -/
theorem del_l (f : Nat) (lb : Array Value) (p : Chg → Bool) (g cap : Nat) (l : List Chg) (w : World) (hr : RowC w g l.toArray) (hg : g < w.heap.size) (hsz : l.length ≤ 1000000) (hcap : l.length ≤ cap) (hp : PredC f lb p g w) :
    Calls Try.prog 50 #[.slice (some ⟨g, 0, none⟩) l.length cap, .func (.func f) #[] lb] w (DelR g cap (l.filter fun c => !p c) w) := del_own f lb p g cap l.toArray w hr hg hsz hcap hp
theorem cpf_l (f : Nat) (eq : Chg → Chg → Bool) (g cap : Nat) (l : List Chg) (w : World) (hr : RowC w g l.toArray) (hg : g < w.heap.size) (hsz : l.length ≤ 1000000) (hcap : l.length ≤ cap) (hp : EqC f eq g w) :
    Calls Try.prog 54 #[.slice (some ⟨g, 0, none⟩) l.length cap, .func (.func f) #[] #[]] w (DelR g cap (comp eq l) w) := cpf_own f eq g cap l.toArray w hr hg hsz hcap hp
theorem cpf_n (f : Nat) (eq : Chg → Chg → Bool) (g cap n : Nat) (l : List Chg) (hn : l.length = n) (w : World) (hr : RowC w g l.toArray) (hg : g < w.heap.size) (hsz : l.length ≤ 1000000) (hcap : l.length ≤ cap) (hp : EqC f eq g w) :
    Calls Try.prog 54 #[.slice (some ⟨g, 0, none⟩) n cap, .func (.func f) #[] #[]] w (DelR g cap (comp eq l) w) := by subst hn; exact cpf_l f eq g cap l w hr hg hsz hcap hp
theorem cps_l (g cap : Nat) (l : List Chg) (w : World) (hr : RowC w g l.toArray) (hg : g < w.heap.size) (hsz : l.length ≤ 1000000) (hcap : l.length ≤ cap) :
    Calls Try.prog 30 #[.slice (some ⟨g, 0, none⟩) l.length cap] w (DelR g cap (comp eqC l) w) := cps_own g cap l.toArray w hr hg hsz hcap
theorem cps_n (g cap n : Nat) (l : List Chg) (hn : l.length = n) (w : World) (hr : RowC w g l.toArray) (hg : g < w.heap.size) (hsz : l.length ≤ 1000000) (hcap : l.length ≤ cap) :
    Calls Try.prog 30 #[.slice (some ⟨g, 0, none⟩) n cap] w (DelR g cap (comp eqC l) w) := by subst hn; exact cps_l g cap l w hr hg hsz hcap
theorem dsc_l (g cap : Nat) (l : List Chg) (w : World) (hr : RowC w g l.toArray) (hg : g < w.heap.size) (hsz : l.length ≤ 1000000) :
    Calls Try.prog 28 #[.slice (some ⟨g, 0, none⟩) l.length cap, .func (.func 53) #[] #[]] w (SortR g (dsc l) w) := sort_dsc g cap l.toArray w hr hg hsz
theorem asc_l (g cap : Nat) (l : List Chg) (w : World) (hr : RowC w g l.toArray) (hg : g < w.heap.size) (hsz : l.length ≤ 1000000) :
    Calls Try.prog 28 #[.slice (some ⟨g, 0, none⟩) l.length cap, .func (.func 29) #[] #[]] w (SortR g (asc l) w) := sort_asc g cap l.toArray w hr hg hsz
theorem rev_l (g cap : Nat) (l : List Chg) (w : World) (hr : RowC w g l.toArray) (hsz : l.length ≤ 1000000) :
    Calls Try.prog 57 #[.slice (some ⟨g, 0, none⟩) l.length cap] w (SortR g l.reverse w) := rev_own g cap l.toArray w hr hsz

/-! ## steps -/
/-- What steps leaves: nothing, or a row of its own. -/
def StepR (l : List Chg) (w : World) (e : Ending) (w' : World) : Prop := ∃ (a : Option Addr) (cap : Nat), e = .returned (.slice a l.length cap) ∧ ChgRow w' w'.heap.size a l.length l ∧ Below w.heap.size w w' ∧ (∀ x, a = some x → w.heap.size ≤ x.block) ∧ (a = none → l.length = 0 ∧ cap = 0)
theorem pred_cl {f : Nat} {lb : Array Value} {p : Chg → Bool} {g : Nat} {w : World} (eg : ∀ args w, (callFunc f args).run Try.prog w = .ok (.enter f args) w) (h : ∀ (c : Chg) (W : World), Calls Try.prog f (#[vC c] ++ lb) W fun e w' => e = .returned (.bool (p c)) ∧ Gr W w') : PredC f lb p g w := ⟨eg, fun c W _ => h c W⟩
theorem eg1 : ∀ args w, (callFunc 52 args).run Try.prog w = .ok (.enter 52 args) w := enters_of Try.func52 (by kernel_rfl) rfl
theorem eg3 : ∀ args w, (callFunc 55 args).run Try.prog w = .ok (.enter 55 args) w := enters_of Try.func55 (by kernel_rfl) rfl
theorem eg4 : ∀ args w, (callFunc 56 args).run Try.prog w = .ok (.enter 56 args) w := enters_of Try.func56 (by kernel_rfl) rfl
theorem eg5 : ∀ args w, (callFunc 58 args).run Try.prog w = .ok (.enter 58 args) w := enters_of Try.func58 (by kernel_rfl) rfl
theorem pred1 (b : Nat) (k : Int) (g : Nat) (w : World) (hc : w.cell? ⟨b, 0, none⟩ = some (.int .i64 k)) (hb : b ≠ g) : PredC 52 #[.pointer (some ⟨b, 0, none⟩)] (fun c => decide (k < c.kn)) g w :=
  ⟨eg1, fun c W hW => cl_known b k c W (hW.cell hc hb)⟩
theorem pred4 (g : Nat) (w : World) : PredC 56 #[] (fun c => c.de) g w := ⟨eg4, fun c W _ => cl_del c W⟩
theorem eqc3 (g : Nat) (w : World) : EqC 55 eqF g w := ⟨eg3, fun a b W _ => cl_from a b W⟩
theorem eqc5 (g : Nat) (w : World) : EqC 58 eqV g w := ⟨eg5, fun a b W _ => cl_val a b W⟩
theorem only_lt {g : Nat} {u w : World} (h : Only g u w) (hg : g < u.heap.size) : g < w.heap.size := Nat.lt_of_lt_of_le hg h.size
theorem calls_to {P : Program} {f : FuncId} {a : Array Value} {w : World} {R R' : Ending → World → Prop} (h : Calls P f a w R) (e : R = R') : Calls P f a w R' := e ▸ h
/-- The steps as six lists, one behind the other. -/
theorem steps_eq (cs : List Chg) (k : Int) : stepsL cs k = comp eqV ((((comp eqF (dsc (cs.filter fun c => !decide (k < c.kn)))).filter fun c => !c.de)).reverse) := rfl

set_option maxRecDepth 100000 in
set_option maxHeartbeats 4000000 in
theorem steps_some (x : Addr) (n cap : Nat) (cs : List Chg) (k : Int) (hn : n ≤ 1000000) (w : World) (hr : ChgRow w w.heap.size (some x) n cs) :
    Calls Try.prog 33 #[.slice (some x) n cap, .int .i64 k] w (StepR (stepsL cs k) w) := by
  have HR := Lib.hid hr
  have hl := hr.1
  rw [steps_eq]
  obtain ⟨l1, h1⟩ : ∃ l, l = cs.filter fun c => !decide (k < c.kn) := ⟨_, rfl⟩
  rw [← h1]
  obtain ⟨l2, h2⟩ : ∃ l, l = dsc l1 := ⟨_, rfl⟩
  rw [← h2]
  obtain ⟨l3, h3⟩ : ∃ l, l = comp eqF l2 := ⟨_, rfl⟩
  rw [← h3]
  obtain ⟨l4, h4⟩ : ∃ l, l = l3.filter fun c => !c.de := ⟨_, rfl⟩
  rw [← h4]
  obtain ⟨l5, h5⟩ : ∃ l, l = l4.reverse := ⟨_, rfl⟩
  rw [← h5]
  obtain ⟨l6, h6⟩ : ∃ l, l = comp eqV l5 := ⟨_, rfl⟩
  rw [← h6]
  have n1 : l1.length ≤ n := by rw [h1, ← hl]; exact List.length_filter_le _ _
  have N2 := Lib.hid (show l2.length = l1.length by rw [h2]; exact (List.mergeSort_perm _ _).length_eq)
  have n2 : l2.length ≤ l1.length := Nat.le_of_eq N2.out
  have n3 : l3.length ≤ l2.length := by rw [h3]; exact comp_length _ _
  have n4 : l4.length ≤ l3.length := by rw [h4]; exact List.length_filter_le _ _
  have N5 := Lib.hid (show l5.length = l4.length by rw [h5, List.length_reverse])
  have n5 : l5.length ≤ l4.length := Nat.le_of_eq N5.out
  have n6 : l6.length ≤ l5.length := by rw [h6]; exact comp_length _ _
  have H1 := Lib.hid h1
  have H2 := Lib.hid h2
  have H3 := Lib.hid h3
  have H4 := Lib.hid h4
  have H5 := Lib.hid h5
  have H6 := Lib.hid h6
  clear hr h1 h2 h3 h4 h5 h6
  go_enter Try.func33, Try.ntmps33
  go_wp2_with fail
  refine (clone_some x n cap cs hn _ ((HR.out.below (Below.alloc (Below.refl _ _) (Nat.le_refl _) _)).mono (by simp))).mono ?_
  rintro e w1 ⟨g, c1, rfl, r1, g0, g1, hc, hb⟩
  have k0 : w1.cell? ⟨w.heap.size, 0, none⟩ = some (.int .i64 k) := (hb.cell (by simp)).trans (by go_simp)
  have gw : w.heap.size < g := by simp at g0; omega
  have O1 : Below w.heap.size w w1 := Below.trans ((Below.refl w.heap.size w).alloc (Nat.le_refl _) _) (hb.mono (by simp))
  have P1 := Lib.hid (pred1 w.heap.size k g w1 k0 (by omega))
  have R1 := Lib.hid r1
  have HO1 := Lib.hid O1
  have HL1 := Lib.hid hl
  clear k0 r1 g0 hb O1 HR hl
  have CC1 := calls_to (del_l 52 _ _ g c1 cs w1 R1.out g1 (by have := HL1.out; omega) hc P1.out) (show DelR g c1 _ w1 = DelR g c1 l1 w1 from by rw [H1.out])
  go_wp2_with fail
  refine CC1.mono ?_
  rintro e w2 ⟨rfl, r2, o2⟩
  have R2 := Lib.hid r2
  have O2 := Lib.hid o2
  have g2 := only_lt o2 g1
  clear r2 o2 R1 P1
  have hc2 : l1.length ≤ c1 := by have := HL1.out; omega
  have CC2 := calls_to (dsc_l g c1 l1 w2 R2.out g2 (by omega)) (show SortR g _ w2 = SortR g l2 w2 from by rw [H2.out])
  go_wp2_with fail
  refine CC2.mono ?_
  rintro e w3 ⟨rfl, r3, o3⟩
  have R3 := Lib.hid r3
  have O3 := Lib.hid (O2.out.trans o3)
  have g3 := only_lt o3 g2
  clear r3 o3 R2 O2
  have CC3 := calls_to (cpf_n 55 eqF g c1 l1.length l2 N2.out w3 R3.out g3 (by omega) (by omega) (eqc3 g w3)) (show DelR g c1 _ w3 = DelR g c1 l3 w3 from by rw [H3.out])
  go_wp2_with fail
  refine CC3.mono ?_
  rintro e w4 ⟨rfl, r4, o4⟩
  have R4 := Lib.hid r4
  have O4 := Lib.hid (O3.out.trans o4)
  have g4 := only_lt o4 g3
  clear r4 o4 R3 O3
  have CC4 := calls_to (del_l 56 _ _ g c1 l3 w4 R4.out g4 (by omega) (by omega) (pred4 g w4)) (show DelR g c1 _ w4 = DelR g c1 l4 w4 from by rw [H4.out])
  go_wp2_with fail
  refine CC4.mono ?_
  rintro e w5 ⟨rfl, r5, o5⟩
  have R5 := Lib.hid r5
  have O5 := Lib.hid (O4.out.trans o5)
  have g5 := only_lt o5 g4
  clear r5 o5 R4 O4
  have CC5 := calls_to (rev_l g c1 l4 w5 R5.out (by omega)) (show SortR g _ w5 = SortR g l5 w5 from by rw [H5.out])
  go_wp2_with fail
  refine CC5.mono ?_
  rintro e w6 ⟨rfl, r6, o6⟩
  have R6 := Lib.hid r6
  have O6 := Lib.hid (O5.out.trans o6)
  have g6 := only_lt o6 g5
  clear r6 o6 R5 O5
  have CC6 := calls_to (cpf_n 58 eqV g c1 l4.length l5 N5.out w6 R6.out g6 (by omega) (by omega) (eqc5 g w6)) (show DelR g c1 _ w6 = DelR g c1 l6 w6 from by rw [H6.out])
  go_wp2_with fail
  refine CC6.mono ?_
  rintro e w7 ⟨rfl, r7, o7⟩
  have R7 := Lib.hid r7
  have O7 := Lib.hid (O6.out.trans o7)
  have g7 := only_lt o7 g6
  clear r7 o7 R6 O6
  go_wp2_with fail
  go_ret
  exact ⟨some ⟨g, 0, none⟩, c1, rfl, R7.out.row g7, HO1.out.trans (O7.out.below (by omega) HO1.out.size), fun x hx => by injection hx with hx; subst hx; exact Nat.le_of_lt gw, fun h => by cases h⟩

set_option maxRecDepth 100000 in
set_option maxHeartbeats 2000000 in
theorem steps_none (cs : List Chg) (k : Int) (hl : cs.length = 0) (w : World) :
    Calls Try.prog 33 #[.slice none 0 0, .int .i64 k] w (StepR (stepsL cs k) w) := by
  obtain rfl : cs = [] := List.length_eq_zero_iff.1 hl
  have e : stepsL [] k = [] := List.length_eq_zero_iff.1 (by have := stepsL_length [] k; simpa using this)
  rw [e]
  clear e hl
  go_enter Try.func33, Try.ntmps33
  go_wp2_with (first
    | (go_at_call 51; (with_reducible refine (clone_none _).mono ?_); rintro e w' ⟨rfl, rfl⟩)
    | (go_at_call 50; (with_reducible refine (del_none _ _).mono ?_); rintro e w' ⟨rfl, rfl⟩)
    | (go_at_call 28; (with_reducible refine (sort_none _ _ _ _).mono ?_); rintro e w' ⟨rfl, rfl⟩)
    | (go_at_call 54; (with_reducible refine (cpf_none _ _).mono ?_); rintro e w' ⟨rfl, rfl⟩)
    | (go_at_call 57; (with_reducible refine (rev_none _).mono ?_); rintro e w' ⟨rfl, rfl⟩))
  go_ret
  exact ⟨none, 0, rfl, ⟨rfl, fun h => absurd h (by decide)⟩, (Below.refl _ _).alloc (Nat.le_refl _) _, fun x hx => (by cases hx), fun _ => ⟨rfl, rfl⟩⟩
/-- A list that a caller holds: nothing, or cells of changes. -/
def Lst (w : World) (a : Option Addr) (n cap : Nat) (cs : List Chg) : Prop := ChgRow w w.heap.size a n cs ∧ (a = none → n = 0 ∧ cap = 0) ∧ n ≤ 9223372036854775807
theorem steps_any (a : Option Addr) (n cap : Nat) (cs : List Chg) (k : Int) (hn : n ≤ 1000000) (w : World) (h : Lst w a n cap cs) :
    Calls Try.prog 33 #[.slice a n cap, .int .i64 k] w (StepR (stepsL cs k) w) := by
  cases a with
  | some x => exact steps_some x n cap cs k hn w h.1
  | none =>
    obtain ⟨rfl, rfl⟩ := h.2.1 rfl
    exact steps_none cs k h.1.1 w

/-! ## slices.BinarySearchFunc, value -/
def BsR (cs : List Chg) (T : Int) (w : World) (e : Ending) (w' : World) : Prop := ∃ (i : Nat) (b : Bool), e = .returned (.tuple #[.int .i64 i, .bool b]) ∧ i ≤ cs.length ∧ (0 < i → cs[i - 1]!.fr < T) ∧ (i < cs.length → T ≤ cs[i]!.fr) ∧ Below w.heap.size w w'
theorem egv : ∀ args w, (callFunc 49 args).run Try.prog w = .ok (.enter 49 args) w := enters_of Try.func49 (by kernel_rfl) rfl
set_option maxRecDepth 100000 in
set_option maxHeartbeats 2000000 in
theorem bs_any (a : Option Addr) (n cap : Nat) (cs : List Chg) (T : Int) (hn : n ≤ 1000000) (w : World) (hr : ChgRow w w.heap.size a n cs) :
    Calls Try.prog 48 #[.slice a n cap, .int .i64 T, .func (.func 49) #[] #[]] w (BsR cs T w) := by
  have HR := Lib.hid hr
  have HL := Lib.hid hr.1
  have eg := egv
  clear hr
  go_enter Try.func48, Try.ntmps48
  go_wp2
  go_loopw [9, 10] (fun x y wr => ∃ s r : Nat, s ≤ r ∧ r ≤ n ∧ x = .int .i64 s ∧ y = .int .i64 r ∧ Hid (0 < s → cs[s - 1]!.fr < T) ∧ Hid (r < n → T ≤ cs[r]!.fr) ∧ Hid (Below w.heap.size w wr)) (fun x y _ => (intOf y).toNat - (intOf x).toNat)
  case atStart => exact ⟨0, n, by omega, by omega, rfl, rfl, Lib.hid (fun h => by omega), Lib.hid (fun h => by omega), Lib.hid (Below.refl _ _)⟩
  case round =>
    obtain ⟨s, r, h1, h2, rfl, rfl, HA, HB, HW⟩ := hrel
    by_cases hlt : s < r
    · obtain ⟨x, hx0, hx, hc⟩ := (HR.out.below HW.out).2 (by omega)
      subst hx0
      have hltz : (s : Int) < (r : Int) := by omega
      have hrz2 : IntKind.i64.wrap ((s : Int) + (r : Int)) = (s : Int) + (r : Int) := by rw [IntKind.wrap_i64]; omega
      obtain ⟨C, hC1⟩ : ∃ C : Nat, ((s : Int) + (r : Int)) / 2 = (C : Int) := ⟨(s + r) / 2, by omega⟩
      have hC2 : s ≤ C := by omega
      have hC3 : C < r := by omega
      have hC4 : (C : Int) < (n : Int) := by omega
      have HN1 := Lib.hid (show cs[C]!.fr < T → 0 < C + 1 → cs[C + 1 - 1]!.fr < T from fun h _ => h)
      have HN2 : Hid (∀ j, j = C → T ≤ cs[C]!.fr → j < n → T ≤ cs[j]!.fr) := Lib.hid fun j hj h _ => by subst hj; exact h
      obtain ⟨c0, c1, c2, c3⟩ := hc C (by omega)
      have CE := Lib.hid (fun W => cl_find cs[C]! T W)
      have HI := cmpI_neg cs[C]!.fr T
      generalize cs[C]! = c at *
      obtain ⟨f, kn, v, d⟩ := c
      unfold vC at CE
      simp only at c0 c1 c2 c3 HI HN1 HN2 CE
      obtain ⟨q, hq⟩ : ∃ q, cmpI f T = q := ⟨_, rfl⟩
      rw [hq] at HI CE
      clear hc hq
      by_cases hneg : q < 0
      · have t1 : decide (q < 0) = true := decide_eq_true hneg
        have HS := Lib.hid (HI.1 hneg)
        clear HI hneg
        go_wp2_with (first | (go_at_call 49; refine (CE.out _).mono ?_; rintro e w' ⟨rfl, hw'⟩) | (go_at_fn 49; refine (CE.out _).mono ?_; rintro e w' ⟨rfl, hw'⟩))
        go_roundw
        case rel => exact ⟨C + 1, r, by omega, by omega, by go_num, rfl, Lib.hid (HN1.out HS.out), HB, Lib.hid (HW.out.trans (hw'.below.mono HW.out.size))⟩
        case measure => simp [intOf]; omega
      · have t1 : decide (q < 0) = false := decide_eq_false hneg
        have HS := Lib.hid (show T ≤ f by have := mt HI.2 hneg; omega)
        clear HI hneg
        go_wp2_with (first | (go_at_call 49; refine (CE.out _).mono ?_; rintro e w' ⟨rfl, hw'⟩) | (go_at_fn 49; refine (CE.out _).mono ?_; rintro e w' ⟨rfl, hw'⟩))
        go_roundw
        case rel => exact ⟨s, C, by omega, by omega, rfl, rfl, HA, Lib.hid (HN2.out C rfl HS.out), Lib.hid (HW.out.trans (hw'.below.mono HW.out.size))⟩
        case measure => simp [intOf]; omega
    · obtain rfl : s = r := by omega
      have t0 : decide ((s : Int) < (s : Int)) = false := decide_eq_false (by omega)
      by_cases hs : s < n
      · obtain ⟨x, hx0, hx, hc⟩ := (HR.out.below HW.out).2 (by omega)
        subst hx0
        have t2 : decide ((s : Int) < (n : Int)) = true := decide_eq_true (by omega)
        obtain ⟨c0, c1, c2, c3⟩ := hc s hs
        have CE := Lib.hid (fun W => cl_find cs[s]! T W)
        generalize hcc : cs[s]! = c at c0 c1 c2 c3 CE
        obtain ⟨f, kn, v, d⟩ := c
        unfold vC at CE
        simp only at c0 c1 c2 c3 CE
        clear hcc hc
        generalize cmpI f T = q at CE
        go_wp2_with (first | (go_at_call 49; refine (CE.out _).mono ?_; rintro e w' ⟨rfl, hw'⟩) | (go_at_fn 49; refine (CE.out _).mono ?_; rintro e w' ⟨rfl, hw'⟩))
        go_ret2
        exact ⟨s, _, rfl, by rw [HL.out]; exact h2, HA.out, fun h => HB.out (by rw [← HL.out]; exact h), HW.out.trans (hw'.below.mono HW.out.size)⟩
      · have t2 : decide ((s : Int) < (n : Int)) = false := decide_eq_false (by omega)
        go_wp2
        go_ret2
        exact ⟨s, _, rfl, by rw [HL.out]; exact h2, HA.out, fun h => HB.out (by rw [← HL.out]; exact h), HW.out⟩
/-- A value, or none. -/
def ValR (o : Option Int) (w : World) (e : Ending) (w' : World) : Prop := e = .returned (.tuple #[.int .i64 (o.getD 0), .bool o.isSome]) ∧ Below w.heap.size w w'
theorem asc_le {l : List Chg} (h : l.Pairwise fun a b => a.fr < b.fr) {i j : Nat} (hij : i ≤ j) (hj : j < l.length) : l[i]!.fr ≤ l[j]!.fr := by
  rcases Nat.lt_or_ge i j with h1 | h1
  · have := List.pairwise_iff_getElem.1 h i j (by omega) hj h1
    rw [getElem!_pos l i (by omega), getElem!_pos l j hj]; omega
  · obtain rfl : i = j := by omega
    exact Int.le_refl _
set_option maxRecDepth 100000 in
set_option maxHeartbeats 2000000 in
theorem value_any (a : Option Addr) (n cap : Nat) (cs : List Chg) (d : Int) (hd : -1000000 ≤ d ∧ d ≤ 1000000) (hn : n ≤ 1000000) (hasc : cs.Pairwise fun a b => a.fr < b.fr) (w : World) (hr : ChgRow w w.heap.size a n cs) :
    Calls Try.prog 32 #[.slice a n cap, .int .i64 d] w (ValR (valF d none cs) w) := by
  have HR := Lib.hid hr
  have HL := Lib.hid hr.1
  have HA := Lib.hid hasc
  clear hr hasc
  go_enter Try.func32, Try.ntmps32
  go_wp2_with fail
  refine (bs_any a n cap cs (d + 1) hn w HR.out).mono ?_
  rintro e w1 ⟨i, b, rfl, hi, h1, h2, hb⟩
  have HB := Lib.hid hb
  have V := Lib.hid (valF_at d cs none i hi (fun t ht => by have := h1 (by omega); have := asc_le HA.out (i := t) (j := i - 1) (by omega) (by omega); omega) (fun h => by have := h2 h; omega))
  have hi2 : i ≤ n := by rw [← HL.out]; exact hi
  clear h1 h2 hi hb
  rcases Nat.eq_zero_or_pos i with h0 | h0
  · subst h0
    go_wp2_with fail
    go_ret2
    refine ⟨?_, HB.out⟩
    rw [V.out]; rfl
  · have t0 : ((i : Int) == 0) = false := by simp; omega
    obtain ⟨x, hx0, hx, hc⟩ := (HR.out.below HB.out).2 (by omega)
    subst hx0
    obtain ⟨D, hD⟩ : ∃ D, D = i - 1 := ⟨_, rfl⟩
    have hD1 : (i : Int) - 1 = (D : Int) := by omega
    have hD2 : (D : Int) < (n : Int) := by omega
    have hD3 : IntKind.i64.wrap ((i : Int) - 1) = (D : Int) := by rw [IntKind.wrap_i64]; omega
    obtain ⟨c0, c1, c2, c3⟩ := hc D (by omega)
    have V2 := Lib.hid (show valF d none cs = some cs[D]!.va by rw [V.out, if_neg (by omega), hD])
    generalize cs[D]! = c at *
    clear hc hD
    go_wp2_with fail
    go_ret2
    refine ⟨?_, HB.out⟩
    rw [V2.out]; rfl
end Go.Proofs.Ytdpgmjmmnjbbiaa.Tl
