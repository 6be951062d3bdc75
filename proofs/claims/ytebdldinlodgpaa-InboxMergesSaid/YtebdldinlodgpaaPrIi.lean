/-
  Layer 8 (inbox): the contract of the reference's Merge. Condition: the lists read as events.
-/
import Derived.Test.YtebdldinlodgpaaPrIf
import Derived.Test.YtebdldinlodgpaaPrIh
namespace Go.Proofs.Ytebdldinlodgpaa.Ib
open Go Go.RowKit Go.Lib Go.Sort Go.Shelf Go.Proofs Go.Proofs.Ytebdldinlodgpaa Go.Proofs.Ytebdldinlodgpaa.Tp Go.Proofs.Ytebdldinlodgpaa.Gm Go.Proofs.Ytebdldinlodgpaa.Rc Go.Proofs.Ytebdldinlodgpaa.SE
set_option linter.unusedVariables false
set_option maxRecDepth 100000 in
set_option maxHeartbeats 4000000 in
theorem rmerge_any (a : Option Addr) (na ca : Nat) (l : List Ev) (b : Option Addr) (nb cb : Nat) (m : List Ev) (w : World) (ha : Lst w a na ca l) (hb : Lst w b nb cb m) :
    Calls Try.prog 55 #[.slice a na ca, .slice b nb cb] w (MrgR l m w) := by
  have HA := Lib.hid ha
  have HB := Lib.hid hb
  have LA := Lib.hid ha.1.1
  have LB := Lib.hid hb.1.1
  have VA := Lib.hid (fun W h => rvalidL_any a na ca l W h)
  have VB := Lib.hid (fun W h => rvalidL_any b nb cb m W h)
  clear ha hb
  by_cases h1 : 1024 < l.length
  · have E : Hid (mrgE l m = 3) := Lib.hid (by unfold mrgE; rw [if_pos (.inl h1)])
    rw [LA.out] at h1
    have t1 : decide ((1024 : Int) < (na : Int)) = true := decide_eq_true (by omega)
    clear VA VB HA HB
    go_enter Try.func55, Try.ntmps55
    go_wp2_with fail
    go_ret2
    exact mrg_three _ _ E.out (by decide) (Below.refl _ _)
  · rw [LA.out] at h1
    have t1 : decide ((1024 : Int) < (na : Int)) = false := decide_eq_false (by omega)
    by_cases h2 : 1024 < m.length
    · have E : Hid (mrgE l m = 3) := Lib.hid (by unfold mrgE; rw [if_pos (.inr h2)])
      rw [LB.out] at h2
      have t2 : decide ((1024 : Int) < (nb : Int)) = true := decide_eq_true (by omega)
      clear VA VB HA HB
      go_enter Try.func55, Try.ntmps55
      go_wp2_with fail
      go_ret2
      exact mrg_three _ _ E.out (by decide) (Below.refl _ _)
    · rw [LB.out] at h2
      have t2 : decide ((1024 : Int) < (nb : Int)) = false := decide_eq_false (by omega)
      have E0 : Hid (mrgE l m = if badL l || badL m then 1 else if 1024 < (setL cmpE (l ++ m)).length then 3 else 0) := Lib.hid (by unfold mrgE; rw [if_neg (by rw [LA.out, LB.out]; omega)])
      cases hb1 : badL l with
      | true =>
        have E : Hid (mrgE l m = 1) := Lib.hid (by rw [E0.out, hb1]; rfl)
        have V := Lib.hid (VA.out w HA.out)
        rw [hb1] at V
        clear hb1 E0 VA VB
        go_enter Try.func55, Try.ntmps55
        go_wp2_with fail
        refine V.out.mono ?_
        rintro e w2 ⟨rfl, g2⟩
        have B2 := Lib.hid g2.below
        clear g2 V
        go_wp2_with fail
        go_ret2
        exact mrg_three _ _ E.out (by decide) B2.out
      | false =>
        have V := Lib.hid (VA.out w HA.out)
        rw [hb1] at V
        cases hb2 : badL m with
        | true =>
          have E : Hid (mrgE l m = 1) := Lib.hid (by rw [E0.out, hb1, hb2]; rfl)
          rw [hb2] at VB
          clear hb1 hb2 E0 VA
          go_enter Try.func55, Try.ntmps55
          go_wp2_with fail
          refine V.out.mono ?_
          rintro e w2 ⟨rfl, g2⟩
          have B2 := Lib.hid g2.below
          clear g2 V
          have V2 := Lib.hid (VB.out w2 (HB.out.more B2.out))
          clear VB
          go_wp2_with fail
          refine V2.out.mono ?_
          rintro e w3 ⟨rfl, g3⟩
          have B3 := Lib.hid (B2.out.trans (g3.below.mono B2.out.size))
          clear g3 V2
          go_wp2_with fail
          go_ret2
          exact mrg_three _ _ E.out (by decide) B3.out
        | false =>
          have E : Hid (mrgE l m = if 1024 < (setL cmpE (l ++ m)).length then 3 else 0) := Lib.hid (by rw [E0.out, hb1, hb2]; rfl)
          rw [hb2] at VB
          have U := Lib.hid (fun W h1 h2 => union_any a na ca l b nb cb m W (by omega) h1 h2)
          have GOOD := Lib.hid (fun h w' a n cap hn ho hb => mrg_good w w' (l := l) (m := m) h (a := a) (n := n) (cap := cap) hn ho hb)
          have BAD := Lib.hid (fun h w' hb => mrg_three w w' (l := l) (m := m) (x := 3) h (by decide) hb)
          have NE : Hid ((setL cmpE (l ++ m)).length ≤ 2048) := Lib.hid (by have := setL_length (cmp := cmpE) (l ++ m); have := LA.out; have := LB.out; simp at *; omega)
          unfold OwnO at U
          clear hb1 hb2 E0 VA
          generalize setL cmpE (l ++ m) = M at *
          generalize hN : M.length = N at *
          have HN := Lib.hid hN
          have hN2 : N ≤ 2048 := NE.out
          clear hN NE
          go_enter Try.func55, Try.ntmps55
          go_wp2_with fail
          refine V.out.mono ?_
          rintro e w2 ⟨rfl, g2⟩
          have B2 := Lib.hid g2.below
          clear g2 V
          have V2 := Lib.hid (VB.out w2 (HB.out.more B2.out))
          clear VB
          go_wp2_with fail
          refine V2.out.mono ?_
          rintro e w3 ⟨rfl, g3⟩
          have B3 := Lib.hid (B2.out.trans (g3.below.mono B2.out.size))
          have U3 := Lib.hid (U.out w3 (HA.out.more B3.out) (HB.out.more B3.out))
          clear g3 V2 U
          go_wp2_with fail
          refine U3.out.mono ?_
          rintro e w4 ⟨a4, cap4, rfl, ho, hb4⟩
          have HO := Lib.hid ho
          have B4 := Lib.hid (B3.out.trans (hb4.mono B3.out.size))
          have SZ := Lib.hid B3.out.size
          clear ho hb4 U3 B3
          by_cases h3 : 1024 < N
          · have t3 : decide ((1024 : Int) < (N : Int)) = true := decide_eq_true (by omega)
            have t4 : decide (1024 < N) = true := decide_eq_true h3
            rw [if_pos h3] at E
            clear h3
            go_wp2_with fail
            go_ret2
            exact BAD.out E.out _ B4.out
          · have t3 : decide ((1024 : Int) < (N : Int)) = false := decide_eq_false (by omega)
            have t4 : decide (1024 < N) = false := decide_eq_false h3
            rw [if_neg h3] at E
            clear h3
            go_wp2_with fail
            go_ret2
            refine GOOD.out E.out _ a4 N cap4 rfl ?_ B4.out
            rcases HO.out with h | ⟨g, h1, h2, h3, h4, h5⟩
            · exact .inl h
            · exact .inr ⟨g, h1, h2, Nat.le_trans SZ.out h3, h4, by rw [HN.out]; exact h5⟩
end Go.Proofs.Ytebdldinlodgpaa.Ib
