/-
  PeriodDivides: the weights and portions of the parts of a period, and divided amounts, or the errors, are those of the reference. No condition but that the listed variable reads as the program text lays it (the card ties it).
-/
import Derived.Test.YtmgglcfndhfceaaGreatDoorPrYz
import Derived.Test.YtmgglcfndhfceaaGreatDoorPrYk
import Derived.Test.YtmgglcfndhfceaaGreatDoorCards
import Derived.Test.YtmgglcfndhfceaaGreatDoorTie
import Derived.SevenTiedAt
import Derived.OpenShut
import Derived.ShutString
import Derived.ChangeOld
import Derived.LaidMore
import Derived.SizedLaws
import Derived.Lib.SmallJoins
import Derived.Deep.Slices
import Derived.ChangeArms
namespace Go.Proofs.YtmgglcfndhfceaaGreatDoor
open Go Go.RowKit Go.Lib Go.Proofs.YtmgglcfndhfceaaGreatDoor.Per
set_option linter.unusedVariables false

theorem add_pos (x : Addr) (j : Nat) (hj : 0 < j) : x.add j = ⟨x.block, x.off + j, none⟩ := by unfold Addr.add; rw [if_neg (by omega)]
theorem add_nil (x : Addr) : x.add 0 = x := by unfold Addr.add; rw [if_pos rfl]
theorem cellsHol : Tryz.prog.cellsOf 53 = 6 := by kernel_rfl
theorem cellsInt : Tryz.prog.cellsOf 3 = 1 := by kernel_rfl
theorem cellsBool : Tryz.prog.cellsOf 4 = 1 := by kernel_rfl
theorem lt_of_cell {w : World} {a : Addr} {v : Value} (h : w.cell? a = some v) : a.block < w.heap.size := by
  rcases Nat.lt_or_ge a.block w.heap.size with h' | h'
  · exact h'
  · simp [World.cell?, Array.getElem?_eq_none h'] at h
instance : Inhabited Cal.Hol := ⟨⟨0, 0, 0, 0, 0, false⟩⟩
/-- Six cells hold this rule. -/
def HolAt (w : World) (x : Addr) (h : Cal.Hol) : Prop :=
  w.cell? x = some (.int .i64 h.kind) ∧ w.cell? ⟨x.block, x.off + 1, none⟩ = some (.int .i64 h.month) ∧ w.cell? ⟨x.block, x.off + 2, none⟩ = some (.int .i64 h.day) ∧
  w.cell? ⟨x.block, x.off + 3, none⟩ = some (.int .i64 h.wday) ∧ w.cell? ⟨x.block, x.off + 4, none⟩ = some (.int .i64 h.off) ∧ w.cell? ⟨x.block, x.off + 5, none⟩ = some (.bool h.moved)
theorem six_of {α : Type} {l : List α} (h : l.length = 6) : ∃ a b c d e f, l = [a, b, c, d, e, f] := by
  rcases l with _ | ⟨a, _ | ⟨b, _ | ⟨c, _ | ⟨d, _ | ⟨e, _ | ⟨f, _ | ⟨g, l⟩⟩⟩⟩⟩⟩⟩
  case cons.cons.cons.cons.cons.cons.nil => exact ⟨a, b, c, d, e, f, rfl⟩
  all_goals simp at h
open Go.Deep in
/-- Each field of a struct of one-cell fields reads by itself. -/
theorem each_field {H : Type} {enc : TypeId × Value → H} {P : Program} {w : World} {base : Nat} {spare : Nat → Bool} {held : Bool} {fuel : Nat} {t : TypeId} {fs : Array Field} {cs : List Value} {x : DataW H × List MemPlace}
    (hone : oneCellFields P fs = true) (ht : P.underlying t = some (.struct fs)) (h : DataW.trod enc P w base spare held fuel t cs = some x) :
    ∃ n : Nat, ∀ (j : Nat) (f : Field) (v : Value), fs[j]? = some f → cs[j]? = some v → ∃ y, DataW.trod enc P w base spare held n f.type [v] = some y := by
  obtain ⟨ys, n, _, _, _, hyl, hg⟩ := DataW.trod_struct ht h
  refine ⟨n, fun j f v hf hv => ?_⟩
  obtain ⟨ho, hk⟩ := hone_of hone j f hf
  have hj : j < ys.length := by rw [hyl]; exact (Array.getElem?_eq_some_iff.1 hf).1
  obtain ⟨hjc, e⟩ := List.getElem?_eq_some_iff.1 hv
  have g := hg j f hf
  rw [ho, hk, List.drop_eq_getElem_cons hjc, e, List.getElem?_eq_getElem hj] at g
  exact ⟨_, g⟩
open Go.ChangeShapes Go.WideShapes in
set_option maxRecDepth 100000 in
/-- An argument that is a list of rules holds rules. -/
theorem open_hols {H : Type} {enc : TypeId × Value → H} {w : World} {base : Nat} {spare : Nat → Bool} {held : Bool} {fuel : Nat} {cs : List Value} {x : DataW H × List MemPlace}
    (h : DataW.trod enc Tryz.prog w base spare held fuel 23 cs = some x) :
    ∃ (a : Option Addr) (n cap : Nat) (hs : List Cal.Hol), cs = [.slice a n cap] ∧ n ≤ maxLen ∧ HolRow w w.heap.size a n hs := by
  rcases Go.Deep.open_slice Tryz.underlying23 h with ⟨rfl, _⟩ | ⟨a, n, cap, m, k, D, Pl, rfl, _, hl, hm, hmm, _, hi⟩
  · exact ⟨none, 0, 0, [], rfl, Nat.zero_le _, rfl, fun h => absurd h (Nat.lt_irrefl 0)⟩
  · have hnm : n ≤ m := by rw [hmm]; split <;> omega
    have each : ∀ i, i < n → ∃ q : Cal.Hol, HolAt w (a.add (i * 6)) q := by
      intro i hin
      obtain ⟨cs', hc, ht⟩ := hi i (by omega)
      rw [cellsHol] at hc
      obtain ⟨_, hlen, hat⟩ := World.cells?_some hc
      obtain ⟨n', hg⟩ := each_field (by kernel_rfl) Tryz.underlying53 ht
      clear hc ht
      obtain ⟨v0, v1, v2, v3, v4, v5, rfl⟩ := six_of hlen
      obtain ⟨_, q0⟩ := hg 0 _ v0 rfl rfl
      obtain ⟨_, q1⟩ := hg 1 _ v1 rfl rfl
      obtain ⟨_, q2⟩ := hg 2 _ v2 rfl rfl
      obtain ⟨_, q3⟩ := hg 3 _ v3 rfl rfl
      obtain ⟨_, q4⟩ := hg 4 _ v4 rfl rfl
      obtain ⟨_, q5⟩ := hg 5 _ v5 rfl rfl
      clear hg
      obtain ⟨b0, e0, _, _⟩ := DataW.trod_int Tryz.underlying3 q0
      obtain ⟨b1, e1, _, _⟩ := DataW.trod_int Tryz.underlying3 q1
      obtain ⟨b2, e2, _, _⟩ := DataW.trod_int Tryz.underlying3 q2
      obtain ⟨b3, e3, _, _⟩ := DataW.trod_int Tryz.underlying3 q3
      obtain ⟨b4, e4, _, _⟩ := DataW.trod_int Tryz.underlying3 q4
      obtain ⟨b5, e5, _⟩ := DataW.trod_bool Tryz.underlying4 q5
      simp only [List.cons.injEq, and_true] at e0 e1 e2 e3 e4 e5
      subst e0 e1 e2 e3 e4 e5
      refine ⟨⟨b0, b1, b2, b3, b4, b5⟩, ?_, ?_, ?_, ?_, ?_, ?_⟩
      · have := hat 0 (by omega); rw [add_nil] at this; simpa using this
      · have := hat 1 (by omega); rw [add_pos _ _ (by omega)] at this; simpa using this
      · have := hat 2 (by omega); rw [add_pos _ _ (by omega)] at this; simpa using this
      · have := hat 3 (by omega); rw [add_pos _ _ (by omega)] at this; simpa using this
      · have := hat 4 (by omega); rw [add_pos _ _ (by omega)] at this; simpa using this
      · have := hat 5 (by omega); rw [add_pos _ _ (by omega)] at this; simpa using this
    obtain ⟨f, hf⟩ := Go.Deep.choose_lt each
    refine ⟨some a, n, cap, (List.range n).map f, rfl, by omega, by simp, fun h0 => ⟨a, rfl, ?_, fun i hin => ?_⟩⟩
    · have := lt_of_cell (hf 0 h0).1
      rwa [addB] at this
    · have hin' : i < n := by simpa using hin
      have := hf i hin'
      simpa [HolAt] using this

open Go.ChangeShapes Go.WideShapes Go.ChangeAt Go.Joins in
set_option maxRecDepth 100000 in
set_option maxHeartbeats 1000000 in
theorem periodDivides_lifted (os : Os) (started : os.Started) (H : Type) (enc : TypeId × Value → H) :
    ReturnsInHanded {} Tryz.checked os 3 .any (fun w args => (Rows.periodDividesSpec.pre enc Tryz.prog Tryz.f3 [] false w args ∧ laidMetH Tryz.prog [("payroll/calendar.longest", Rows.laid_payroll_calendar_longest)] w) ∧ sizedMet enc Tryz.prog Tryz.f3 (OpenSpec.ofChange Rows.periodDividesSpec) false w args)
      (Rows.periodDividesSpec.post enc Tryz.prog Tryz.f3 false true false false) := by
  refine returnsInHanded_of_change_and (C := Tryz.checked) (X := fun w _ => laidMetH Tryz.prog [("payroll/calendar.longest", Rows.laid_payroll_calendar_longest)] w) (fun _ _ _ hh h => h.of_heap hh) own started (by kernel_rfl) Tryz.func3
    (ChangeSpec.witness_shaped (enc := enc) (C := Tryz.checked) (os := os) (X := fun w _ => laidMetH Tryz.prog [("payroll/calendar.longest", Rows.laid_payroll_calendar_longest)] w) false (World.doorLaid Tryz.prog 400 os) #[.slice none 0 0, .int .i64 0, .slice none 0 0, .slice none 0 0] 8 rfl (World.shaped_of_RefB (by kernel_rfl) (by kernel_rfl)) (by kernel_rfl) (by kernel_rfl) (by kernel_rfl) (door_met1 os _)) ?_
  intro W base args ds gs before hval0 hW _ hsz0 hL _
  have hval : ∀ (j : Nat) t v, Tryz.f3.params[j]? = some t → args[j]? = some v → Value.okWide Tryz.prog W .any base t v := hval0
  have hW' := hW
  obtain ⟨p, q, hA0, hV, rfl, hfz, hnd⟩ := hW
  have hA : DataW.TrodAll enc Tryz.prog W 0 (fun _ => true) true Tryz.f3.params.toList args.toList ds p := hA0
  have hsz : (DataW.weightsEach Tryz.prog (Tryz.f3.params.toList ++ Rows.periodDividesSpec.plain.varTypes Tryz.prog) (ds ++ gs)).all (· ≤ reachBytes) = true := hsz0
  rw [Tryz.params3] at hA hval hsz
  obtain ⟨v0, vs0, d0, ds0, p0, q0, hargs, rfl, rfl, h0, r0⟩ := trodAll_cons hA
  obtain ⟨v1, vs1, d1, ds1, p1, q1, rfl, rfl, rfl, h1, r1⟩ := trodAll_cons r0
  obtain ⟨v2, vs2, d2, ds2, p2, q2, rfl, rfl, rfl, h2, r2⟩ := trodAll_cons r1
  obtain ⟨v3, vs3, d3, ds3, p3, q3, rfl, rfl, rfl, h3, r3⟩ := trodAll_cons r2
  obtain ⟨rfl, rfl, rfl⟩ := trodAll_nil r3
  obtain rfl : args = #[v0, v1, v2, v3] := by cases args; simp_all
  obtain ⟨rfl, rfl⟩ := trodVars_none hV
  have k0 := h0
  have lt0 : ∀ x ∈ p0, x.block < W.heap.size := by obtain ⟨m, hm⟩ := k0; exact DataW.trod_lt m _ _ _ hm
  obtain ⟨a0, len0, cap0, rfl⟩ := okWide_slice Tryz.underlying22 (hval 0 22 v0 rfl rfl)
  obtain ⟨z0, w0⟩ : ∃ zs, Tp.IsRow W a0 len0 cap0 zs := by
    obtain ⟨fuel, hf⟩ := h0
    rcases open_ints Tryz.underlying22 Tryz.underlying3 (by kernel_rfl) hf with ⟨hcs, _⟩ | ⟨x, l, c, zs, hcs, _, hl, hm, hz, _, hcell, hwz⟩
    · simp [Value.cells] at hcs
      obtain ⟨rfl, rfl, rfl⟩ := hcs
      exact ⟨[], .inl ⟨rfl, rfl, rfl, rfl⟩⟩
    · simp [Value.cells] at hcs
      obtain ⟨rfl, rfl, rfl⟩ := hcs
      exact ⟨zs, .inr ⟨_, rfl, hl, hm, by simpa using hz, hcell, hwz⟩⟩
  have l0 : len0 ≤ 9223372036854775807 := by
    rcases w0 with ⟨_, h, _⟩ | ⟨_, _, h, h', _⟩
    · omega
    · unfold maxLen at h'; omega
  have k1 := h1
  have lt1 : ∀ x ∈ p1, x.block < W.heap.size := by obtain ⟨m, hm⟩ := k1; exact DataW.trod_lt m _ _ _ hm
  obtain ⟨a1, rfl, rfl, rfl, w1⟩ := open_int Tryz.underlying3 (hval 1 3 v1 rfl rfl) h1
  have b1 := i64_wf w1
  have k2 := h2
  have lt2 : ∀ x ∈ p2, x.block < W.heap.size := by obtain ⟨m, hm⟩ := k2; exact DataW.trod_lt m _ _ _ hm
  obtain ⟨a2, len2, cap2, rfl⟩ := okWide_slice Tryz.underlying22 (hval 2 22 v2 rfl rfl)
  obtain ⟨z2, w2⟩ : ∃ zs, Tp.IsRow W a2 len2 cap2 zs := by
    obtain ⟨fuel, hf⟩ := h2
    rcases open_ints Tryz.underlying22 Tryz.underlying3 (by kernel_rfl) hf with ⟨hcs, _⟩ | ⟨x, l, c, zs, hcs, _, hl, hm, hz, _, hcell, hwz⟩
    · simp [Value.cells] at hcs
      obtain ⟨rfl, rfl, rfl⟩ := hcs
      exact ⟨[], .inl ⟨rfl, rfl, rfl, rfl⟩⟩
    · simp [Value.cells] at hcs
      obtain ⟨rfl, rfl, rfl⟩ := hcs
      exact ⟨zs, .inr ⟨_, rfl, hl, hm, by simpa using hz, hcell, hwz⟩⟩
  have l2 : len2 ≤ 9223372036854775807 := by
    rcases w2 with ⟨_, h, _⟩ | ⟨_, _, h, h', _⟩
    · omega
    · unfold maxLen at h'; omega
  have k3 := h3
  have lt3 : ∀ x ∈ p3, x.block < W.heap.size := by obtain ⟨m, hm⟩ := k3; exact DataW.trod_lt m _ _ _ hm
  obtain ⟨a3, len3, cap3, rfl⟩ := okWide_slice Tryz.underlying23 (hval 3 23 v3 rfl rfl)
  obtain ⟨z3, lm3, w3⟩ : ∃ hs, len3 ≤ maxLen ∧ HolRow W W.heap.size a3 len3 hs := by
    obtain ⟨fuel, hf⟩ := h3
    obtain ⟨a, l, c, hs, e, hl, hr⟩ := open_hols hf
    simp [Value.cells] at e
    obtain ⟨rfl, rfl, rfl⟩ := e
    exact ⟨hs, hl, hr⟩
  have l3 : len3 ≤ 9223372036854775807 := by unfold maxLen at lm3; omega
  clear hA0 hval0
  refine (RetV.out (divs_walk a0 len0 cap0 z0 a1 b1.1 b1.2 a2 len2 cap2 z2 a3 len3 cap3 z3 W w0 l0 w2 l2 w3 l3 (lg_of_laid hL))).mono fun e W' ⟨he, bel⟩ => ?_
  subst he
  exact ⟨_, rfl, _, _, _, [], _, [], hW', trodAll_mk1 (shut_bool Tryz.underlying4 _), (trodAll_cons_mk (Below.trod laidOut (by kernel_rfl) (of_decide_eq_true (by kernel_rfl)) k0 bel lt0) (trodAll_cons_mk (Below.trod laidOut (by kernel_rfl) (of_decide_eq_true (by kernel_rfl)) k1 bel lt1) (trodAll_cons_mk (Below.trod laidOut (by kernel_rfl) (of_decide_eq_true (by kernel_rfl)) k2 bel lt2) (trodAll_cons_mk (Below.trod laidOut (by kernel_rfl) (of_decide_eq_true (by kernel_rfl)) k3 bel lt3) trodAll_mk0)))), rfl, bel.frame _, fun h => by cases h⟩

theorem periodDivides_over : Rows.PeriodDividesSaid :=
  OpenClaim.holds_of_wide 3 Tryz.f3 rfl rfl rfl rfl rfl rfl rfl ⟨rfl, rfl, rfl, rfl, rfl⟩ rfl rfl rfl rfl rfl (by kernel_rfl) Tryz.func3 (by kernel_rfl)
    (of_decide_eq_true (by kernel_rfl)) (by unfold Func.isWrapper; first | (rw [if_pos (by decide +kernel)]; kernel_rfl) | (rw [if_neg (by decide +kernel)]; exact ⟨rfl, rfl⟩))
    (fun os started H enc _ => periodDivides_lifted os started H enc)

theorem periodDivides_proved : Rows.PeriodDividesCardSaid :=
  Claim7.holds_tied_plain_at .later [] [.data] true _ false
    periodDivides_over (fun _ h => by cases h) (by kernel_rfl) (fun _ h => by cases h) periodDivides_row_tie rfl ⟨rfl, rfl⟩ (by kernel_rfl) rfl
    (fun f fn hf hfn => by
      obtain rfl : f = 3 := Option.some.inj ((show Tryz.prog.funcNamed Rows.periodDividesRow.func = some 3 by kernel_rfl).symm.trans hf) |>.symm
      obtain rfl : fn = Tryz.f3 := (Option.some.inj (Tryz.func3.symm.trans hfn)).symm
      exact ⟨by kernel_rfl, fun j t ht => by
        rw [Tryz.params3] at ht
        rcases j with _ | _ | _ | _ | j
        · obtain rfl : t = 22 := by simpa using ht.symm
          exact (show Tryz.prog.wantsStandIn 22 = false by kernel_rfl)
        · obtain rfl : t = 3 := by simpa using ht.symm
          exact (show Tryz.prog.wantsStandIn 3 = false by kernel_rfl)
        · obtain rfl : t = 22 := by simpa using ht.symm
          exact (show Tryz.prog.wantsStandIn 22 = false by kernel_rfl)
        · obtain rfl : t = 23 := by simpa using ht.symm
          exact (show Tryz.prog.wantsStandIn 23 = false by kernel_rfl)
        · simp at ht⟩)
    (by kernel_rfl)
#print axioms periodDivides_proved
end Go.Proofs.YtmgglcfndhfceaaGreatDoor
