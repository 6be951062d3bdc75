/-
  Layer 7 (records): the walk of RecordsAccount: the answer is true. Condition: the numbers fit their kinds.
-/
import Derived.Test.YtebdldinlodgpaaPrKa
import Derived.Deep.Cut
import Derived.BigQuiet
import Derived.Deep.CutRange
namespace Go.Proofs.Ytebdldinlodgpaa.Rc
open Go Go.RowKit Go.Lib Go.Sort Go.Shelf Go.Proofs Go.Proofs.Ytebdldinlodgpaa Go.Proofs.Ytebdldinlodgpaa.Tp
set_option linter.unusedVariables false

/-- The bytes of the gaps before the k-th one. -/
def accS (gs : List (Nat × Nat)) (k : Nat) : Nat := ((gs.map fun g => g.2 - g.1).take k).sum
/-- Where the gap before the k-th one ends. -/
def accL (gs : List (Nat × Nat)) (k : Nat) : Nat := if k = 0 then 0 else (gs[k - 1]!).2
theorem accS_succ {gs : List (Nat × Nat)} {k : Nat} (hk : k < gs.length) : accS gs (k + 1) = accS gs k + ((gs[k]!).2 - (gs[k]!).1) := by
  unfold accS
  rw [List.take_succ_eq_append_getElem (by simpa using hk), getElem!_pos gs k hk, List.sum_append]
  simp
theorem acc_lo {es : List Ev} {gs : List (Nat × Nat)} {n : Nat} (h : GapI es gs n) (k : Nat) (hk : k ≤ gs.length) : k ≤ accS gs k := by
  induction k with
  | zero => exact Nat.zero_le _
  | succ k ih =>
    rw [accS_succ (by omega)]
    have := (h.pos k (by omega)).1
    have := ih (by omega)
    omega
theorem accS_le (gs : List (Nat × Nat)) (k : Nat) : accS gs k ≤ accS gs gs.length := by
  unfold accS
  have h := congrArg List.sum (List.take_append_drop k (gs.map fun g => g.2 - g.1))
  rw [List.sum_append] at h
  rw [show gs.length = (gs.map fun g => g.2 - g.1).length by simp, List.take_length]
  omega
theorem acc_at {es : List Ev} {gs : List (Nat × Nat)} {n k : Nat} (h : GapI es gs n) (hk : k < gs.length) : accL gs k ≤ (gs[k]!).1 ∧ (gs[k]!).1 < (gs[k]!).2 ∧ (gs[k]!).2 ≤ n ∧ (0 < k → accL gs k ≠ (gs[k]!).1) := by
  have h1 := h.pos k hk
  unfold accL
  by_cases h0 : k = 0
  · subst h0; exact ⟨by simp, h1.1, h1.2, fun h => absurd h (by decide)⟩
  · have h2 := h.asc (k - 1) (by omega)
    rw [show k - 1 + 1 = k by omega] at h2
    rw [if_neg h0]
    omega
theorem acc_end {es : List Ev} {gs : List (Nat × Nat)} {n : Nat} (h : GapI es gs n) : 24 * es.length + accS gs gs.length = n := by
  have := h.sum
  unfold accS
  rw [show gs.length = (gs.map fun g => g.2 - g.1).length by simp, List.take_length]
  exact this
set_option maxRecDepth 100000 in
set_option maxHeartbeats 8000000 in
theorem account_walk (t0 : Option Addr) (len cap : Nat) (zs : List Int) (w : World) (ra : Option Addr) (rn rc : Nat) (rb : List Nat) (hraw : BRow w ra rn rb) (hnone : (ra = none → rn = 0) ∧ (ra = none → rc = 0)) (hr : IsRow w t0 len cap zs) (hlen : len ≤ 9223372036854775807) :
    Calls Try.prog 8 #[.slice t0 len cap, .slice ra rn rc] w (TrueR w) := by
  have T0 := Lib.hid (tape_new hr hlen 73)
  have B0 := Lib.hid (show Below w.heap.size w (w.alloc (.cells #[.slice t0 len cap, .int .i64 0] 73)) from (Below.refl _ _).alloc (Nat.le_refl _) _)
  obtain ⟨i0, hi0, hz0, hz1, hz2⟩ := info1
  have HQ := Lib.hid (And.intro hi0 (And.intro hz0 (And.intro hz1 hz2)))
  have RB := Lib.hid hraw
  have RN := Lib.hid hnone
  clear hr hlen hi0 hz0 hz1 hz2 hraw hnone
  go_enter Try.func8, Try.ntmps8
  go_wp2_with fail
  refine (gnew_any t0 len cap _).mono ?_
  rintro r w0 ⟨rfl, rfl⟩
  go_wp2_with fail
  refine (frames_any w.heap.size 4 (by decide) _ T0.out).mono ?_
  rintro r w1 ⟨v, l, rfl, ll, HI⟩
  have OB := Lib.hid (HI.own rfl B0.out)
  have LB := Lib.hid HI.by_
  have LL : Hid (l.length ≤ 140) := Lib.hid (by omega)
  have RB1 : Hid (BRow w1 ra rn rb) := Lib.hid (RB.out.more (OwnL.below OB.out))
  clear T0 B0 HI ll
  go_upto_if 17 with fail
  go_cut [5] (fun s wx => ∃ A N cap L, s = .slice A N cap ∧ Hid (Byt w A N cap L wx))
  case first =>
    by_cases hrn : rn ≤ 2000
    · have tr : decide ((rn : Int) ≤ 2000) = true := decide_eq_true (by omega)
      have tr2 : decide (rn ≤ 2000) = true := decide_eq_true hrn
      go_wp2_with (at_builtin; refine wpList_append_opt _ rfl _ _ 27 rfl w.heap.size 5 i0 (.int .u8 0) 1 1 Try.underlying27 HQ.out.1 HQ.out.2.1 HQ.out.2.2.1 HQ.out.2.2.2 rfl (by decide) _ _ _ rfl (OwnL.row OB.out) ra rn rc (rb.flatMap eB) rfl (BRow.opt RB1.out).1 (fun e => ⟨RN.out.1 e, RN.out.2 e⟩) (fun ad e => (BRow.opt RB1.out).2 ad e _ (Below.refl _ _)) (fB_one rb) ?m3 ?m4 (OwnL.below OB.out).size ?_)
      case m3 => have := LL.out; unfold maxLen; omega
      case m4 => have := LL.out; omega
      intro v2 w2 hown hgrow _
      have O2 := Lib.hid (OwnL.grown (m := rb) OB.out (by rw [RB.out.1]; exact hown) hgrow)
      clear hown hgrow OB RB1
      obtain ⟨A, N, cap', hv, HB⟩ := Byt.mk' O2.out (by have := LL.out; have := RB.out.1; simp; omega) (LB.out.app RB.out.2.1)
      subst hv
      go_wp2_with fail
      go_meet
      exact ⟨A, N, cap', _, rfl, Lib.hid HB⟩
    · have tr : decide ((rn : Int) ≤ 2000) = false := decide_eq_false (by omega)
      have tr2 : decide (rn ≤ 2000) = false := decide_eq_false hrn
      obtain ⟨A, N, cap', hv, HB⟩ := Byt.mk' OB.out (by have := LL.out; omega) LB.out
      subst hv
      go_wp2_with fail
      go_meet
      exact ⟨A, N, cap', _, rfl, Lib.hid HB⟩
  case rest =>
  obtain ⟨A, N, cap2, L, hs, HB⟩ := hcut
  subst hs
  clear OB LB LL RB1 RB RN v l
  obtain ⟨w2, hw2⟩ : ∃ w2, w2 = wc := ⟨_, rfl⟩
  subst hw2
  have NL := Lib.hid HB.out.len
  have n1 := HB.out.le
  have n2 := HB.out.cap
  have DC1 := Lib.hid (decode_any A N cap2 L (by omega) n2 _ (HB.out.row (Below.refl _ _)))
  have BW := Lib.hid (OwnL.below HB.out.own)
  have D1 := dec_len L
  have RS := scan_rest L
  rw [← (dec_scan L).2] at RS
  have GI := Lib.hid (dec_gap L)
  unfold DcR at DC1
  have lN := NL.out
  clear HB NL
  generalize (dec L).2.2 = n at *
  generalize (dec L).1 = E at *
  generalize (dec L).2.1 = G at *
  have b1 : n ≤ N := by omega
  have b2 : N - n < 24 := by omega
  have b3 : E.length ≤ 2140 := by omega
  clear D1 RS lN
  have AE := Lib.hid (acc_end GI.out)
  have gl : G.length ≤ 2140 := by have := acc_lo GI.out G.length (Nat.le_refl _); have := AE.out; omega
  have SB : Hid (∀ k, 24 * E.length + accS G k ≤ 2140) := Lib.hid fun k => by have := accS_le G k; have := AE.out; omega
  have AL : Hid (∀ k, k < G.length → accL G k ≤ (G[k]!).1 ∧ (G[k]!).1 < (G[k]!).2 ∧ (G[k]!).2 ≤ n ∧ (0 < k → accL G k ≠ (G[k]!).1)) := Lib.hid fun k hk => acc_at GI.out hk
  go_wp2_with fail
  refine DC1.out.mono ?_
  rintro r w3 ⟨v1, g1, rfl, I1⟩
  have BB := Lib.hid (BW.out.trans ((OwnL.below I1.e).mono BW.out.size))
  have GR := OwnG.grow I1.g
  obtain ⟨A4, c4, hg1, hcells⟩ := GR
  subst hg1
  obtain ⟨A5, c5, hv1, _, _⟩ := OwnL.src I1.e
  subst hv1
  have GC := Lib.hid hcells
  clear hcells I1 DC1 BW GI
  obtain ⟨M, hM⟩ : ∃ M, M = G.length := ⟨_, rfl⟩
  have HM := Lib.hid hM
  rw [← hM] at AL AE GC gl ⊢
  clear hM
  generalize hel : E.length = el at *
  have HEL := Lib.hid hel
  clear hel
  go_wp2_with fail
  go_loopw [9, 10, 11] (fun s l z wr => ∃ k : Nat, k ≤ M ∧ z = .int .i64 k ∧ s = .int .i64 (24 * (el : Int) + (accS G k : Nat)) ∧ l = .int .i64 (accL G k : Nat) ∧ Hid (Below w3.heap.size w3 wr)) (fun _ _ z _ => M - (intOf z).toNat)
  case atStart => exact ⟨0, by omega, rfl, by simp [accS], rfl, Lib.hid (Below.refl _ _)⟩
  case round =>
    obtain ⟨k, hk, rfl, rfl, rfl, HW⟩ := hrel
    by_cases hlt : k < M
    · have i1 : (k : Int) < (M : Int) := by omega
      obtain ⟨g, hg0, hg⟩ := GC.out (by omega)
      subst hg0
      obtain ⟨c0, c1⟩ := hg k hlt
      have b0 := c0
      have b1' := c1
      have d0 := (HW.out.cell (World.block_lt_of_cell? w3 _ c0)).trans c0
      have d1 := (HW.out.cell (World.block_lt_of_cell? w3 _ c1)).trans c1
      obtain ⟨x1, x2, x3, x4⟩ := AL.out k hlt
      have NS := Lib.hid (show accS G (k + 1) = accS G k + ((G[k]!).2 - (G[k]!).1) from accS_succ (by rw [← HM.out]; exact hlt))
      have NL2 := Lib.hid (show accL G (k + 1) = (G[k]!).2 from rfl)
      have sb := SB.out k
      clear hg c0 c1
      generalize (G[k]!).1 = f at *
      generalize (G[k]!).2 = t at *
      generalize accS G k = S at *
      generalize accL G k = la at *
      have t1 : decide ((f : Int) < (la : Int)) = false := decide_eq_false (by omega)
      have t1' : decide (f < la) = false := decide_eq_false (by omega)
      have t2 : decide ((t : Int) ≤ (f : Int)) = false := decide_eq_false (by omega)
      have t2' : decide (t ≤ f) = false := decide_eq_false (by omega)
      have t3 : decide ((n : Int) < (t : Int)) = false := decide_eq_false (by omega)
      have t3' : decide (n < t) = false := decide_eq_false (by omega)
      have w1 : IntKind.i64.wrap (24 * (el : Int) + (S : Int) + (t : Int)) = 24 * (el : Int) + (S : Int) + (t : Int) := by rw [IntKind.wrap_i64]; omega
      have w2' : IntKind.i64.wrap (24 * (el : Int) + (S : Int) + (t : Int) - (f : Int)) = 24 * (el : Int) + (S : Int) + (t : Int) - (f : Int) := by rw [IntKind.wrap_i64]; omega
      go_upto_region 10 with fail
      go_cut [77] (fun s wx => s = .bool false ∧ Hid (Below w3.heap.size w3 wx))
      case first =>
        by_cases hk0 : k = 0
        · have t4 : decide ((0 : Int) < (k : Int)) = false := decide_eq_false (by omega)
          have t4' : decide (0 < k) = false := decide_eq_false (by omega)
          clear hk0
          go_quiet (fail)
          have H2 := Lib.hid (below_drewN HW.out nq)
          go_wp2_with fail
          go_meet
          exact ⟨rfl, H2⟩
        · have t4 : decide ((0 : Int) < (k : Int)) = true := decide_eq_true (by omega)
          have t4' : decide (0 < k) = true := decide_eq_true (by omega)
          have t5 : ((f : Int) == (la : Int)) = false := by have := x4 (by omega); simp; omega
          clear hk0
          go_quiet (fail)
          have H2 := Lib.hid (below_drewN HW.out nq)
          go_wp2_with fail
          go_meet
          exact ⟨rfl, H2⟩
      case rest =>
      obtain ⟨hs, HW2⟩ := hcut
      subst hs
      obtain ⟨wq, hwq⟩ : ∃ wq, wq = wc := ⟨_, rfl⟩
      subst hwq
      have e0 := (HW2.out.cell (World.block_lt_of_cell? w3 _ b0)).trans b0
      have e1 := (HW2.out.cell (World.block_lt_of_cell? w3 _ b1')).trans b1'
      clear d0 d1 t1 t1' t2 t2' t3 t3' x4
      go_wp2_with fail
      go_quiet (fail)
      have H3 := Lib.hid (below_drewN HW2.out nq)
      go_wp2_with fail
      go_roundw
      case rel => exact ⟨k + 1, by omega, by go_num, by rw [NS.out]; go_num, by rw [NL2.out], H3⟩
      case measure => simp [intOf]; omega
    · obtain rfl : k = M := by omega
      have t0 : decide ((k : Int) < (k : Int)) = false := decide_eq_false (by omega)
      have AE2 := AE.out
      have te : (24 * (el : Int) + ((accS G k : Nat) : Int) == (n : Int)) = true := by have := AE.out; simp; omega
      have t1 : decide ((0 : Int) ≤ (N : Int) - (n : Int)) = true := decide_eq_true (by omega)
      have t2 : decide ((N : Int) - (n : Int) < 24) = true := decide_eq_true (by omega)
      clear AE2
      go_wp2_with fail
      refine (sane_any _).mono ?_
      rintro r w10 ⟨rfl, b10⟩
      go_wp2_with fail
      go_ret
      exact ⟨rfl, (BB.out.trans (HW.out.mono BB.out.size)).trans (b10.mono (by have := HW.out.size; have := BB.out.size; omega))⟩
end Go.Proofs.Ytebdldinlodgpaa.Rc
