/-
  Layer 8 (inbox): the contracts of Merge and of the reference's Compare. Conditions: the lists read as events.
-/
import Derived.Test.YtebdldinlodgpaaPrId
namespace Go.Proofs.Ytebdldinlodgpaa.Ib
open Go Go.RowKit Go.Lib Go.Sort Go.Shelf Go.Proofs Go.Proofs.Ytebdldinlodgpaa Go.Proofs.Ytebdldinlodgpaa.Tp Go.Proofs.Ytebdldinlodgpaa.Gm Go.Proofs.Ytebdldinlodgpaa.Rc Go.Proofs.Ytebdldinlodgpaa.SE
set_option linter.unusedVariables false

def mrgE (l m : List Ev) : Int := if 1024 < l.length ∨ 1024 < m.length then 3 else if badL l || badL m then 1 else if 1024 < (setL cmpE (l ++ m)).length then 3 else 0
def mrgL (l m : List Ev) : List Ev := if mrgE l m = 0 then setL cmpE (l ++ m) else []
/-- Nothing, or a row of the call's own. -/
def OwnP (l : List Ev) (w : World) (a : Option Addr) (cap : Nat) (w' : World) : Prop := (a = none ∧ l = [] ∧ cap = 0) ∨ ∃ g, a = some ⟨g, 0, none⟩ ∧ RowC w' g l.toArray ∧ w.heap.size ≤ g ∧ g < w'.heap.size ∧ l.length ≤ cap
/-- What either Merge gives. -/
def MrgR (l m : List Ev) (w : World) (e : Ending) (w' : World) : Prop := ∃ a cap, e = .returned (.tuple #[.slice a (mrgL l m).length cap, .int .i64 (mrgE l m)]) ∧ OwnP (mrgL l m) w a cap w' ∧ Below w.heap.size w w'
theorem pair_any (w : World) (a b : Option Addr) (na ca nb cb : Nat) (l m : List Ev) (ha : Lst w a na ca l) (hb : Lst w b nb cb m) (o : TypeId) : LL (w.alloc (.cells #[.slice a na ca, .slice b nb cb] o)) w.heap.size [⟨a, na, ca, l⟩, ⟨b, nb, cb, m⟩] := by
  have hB : Below w.heap.size w (w.alloc (.cells #[.slice a na ca, .slice b nb cb] o)) := (Below.refl _ _).alloc (Nat.le_refl _) _
  refine ⟨fun i hi => ?_, fun i hi => ?_⟩
  · rcases i with _ | _ | i
    · show World.cell? _ ⟨w.heap.size, 0, none⟩ = some (.slice a na ca)
      go_simp
    · show World.cell? _ ⟨w.heap.size, 0 + 1, none⟩ = some (.slice b nb cb)
      go_simp
    · exact absurd hi (by simp only [List.length_cons, List.length_nil]; omega)
  · rcases i with _ | _ | i
    · exact ha.more hB
    · exact hb.more hB
    · exact absurd hi (by simp only [List.length_cons, List.length_nil]; omega)
theorem chk_two (a b : Option Addr) (na ca nb cb : Nat) (l m : List Ev) (hl : l.length = na) (hm : m.length = nb) : chkE [⟨a, na, ca, l⟩, ⟨b, nb, cb, m⟩] = if 1024 < l.length ∨ 1024 < m.length then 3 else if badL l || badL m then 1 else 0 := by
  unfold chkE
  rw [hl, hm]
  by_cases h1 : 1024 < na <;> by_cases h2 : 1024 < nb <;> simp [h1, h2]
theorem mrgL_no {l m : List Ev} (h : mrgE l m ≠ 0) : mrgL l m = [] := by unfold mrgL; rw [if_neg h]
theorem mrg_three (w w' : World) {l m : List Ev} {x : Int} (h : mrgE l m = x) (hx : x ≠ 0) (hb : Below w.heap.size w w') : MrgR l m w (.returned (.tuple #[.slice none 0 0, .int .i64 x])) w' := by
  unfold MrgR
  rw [mrgL_no (by rw [h]; exact hx), h]
  exact ⟨none, 0, rfl, .inl ⟨rfl, rfl, rfl⟩, hb⟩
theorem mrg_good (w w' : World) {l m : List Ev} (h : mrgE l m = 0) {a : Option Addr} {n cap : Nat} (hn : (setL cmpE (l ++ m)).length = n) (ho : OwnP (setL cmpE (l ++ m)) w a cap w') (hb : Below w.heap.size w w') : MrgR l m w (.returned (.tuple #[.slice a n cap, .int .i64 0])) w' := by
  unfold MrgR
  have e : mrgL l m = setL cmpE (l ++ m) := by unfold mrgL; rw [if_pos h]
  rw [e, h, hn]
  exact ⟨a, cap, rfl, ho, hb⟩
set_option maxRecDepth 100000 in
set_option maxHeartbeats 4000000 in
theorem merge_any (a : Option Addr) (na ca : Nat) (l : List Ev) (b : Option Addr) (nb cb : Nat) (m : List Ev) (w : World) (ha : Lst w a na ca l) (hb : Lst w b nb cb m) :
    Calls Try.prog 39 #[.slice a na ca, .slice b nb cb] w (MrgR l m w) := by
  have P1 := Lib.hid (pair_any w a b na ca nb cb l m ha hb 44)
  have C1 := Lib.hid (check_any w.heap.size 2 2 [⟨a, na, ca, l⟩, ⟨b, nb, cb, m⟩] rfl (by decide) _ P1.out)
  rw [chk_two a b na ca nb cb l m ha.1.1 hb.1.1] at C1
  have B1 : Hid (Below w.heap.size w (w.alloc (.cells #[.slice a na ca, .slice b nb cb] 44))) := Lib.hid ((Below.refl _ _).alloc (Nat.le_refl _) _)
  have HA := Lib.hid ha
  have HB := Lib.hid hb
  have LA := Lib.hid ha.1.1
  have LB := Lib.hid hb.1.1
  clear ha hb
  by_cases h1 : 1024 < l.length ∨ 1024 < m.length
  · have E : Hid (mrgE l m = 3) := Lib.hid (by unfold mrgE; rw [if_pos h1])
    rw [if_pos h1] at C1
    clear h1
    go_enter Try.func39, Try.ntmps39
    go_wp2_with fail
    refine C1.out.mono ?_
    rintro e w2 ⟨rfl, g2⟩
    have B2 := Lib.hid (B1.out.trans (g2.below.mono B1.out.size))
    clear g2 C1
    go_wp2_with fail
    go_ret2
    exact mrg_three _ _ E.out (by decide) B2.out
  · rw [if_neg h1] at C1
    by_cases h2 : (badL l || badL m) = true
    · have E : Hid (mrgE l m = 1) := Lib.hid (by unfold mrgE; rw [if_neg h1, if_pos h2])
      rw [if_pos h2] at C1
      clear h1 h2
      go_enter Try.func39, Try.ntmps39
      go_wp2_with fail
      refine C1.out.mono ?_
      rintro e w2 ⟨rfl, g2⟩
      have B2 := Lib.hid (B1.out.trans (g2.below.mono B1.out.size))
      clear g2 C1
      go_wp2_with fail
      go_ret2
      exact mrg_three _ _ E.out (by decide) B2.out
    · have E : Hid (mrgE l m = if 1024 < (setL cmpE (l ++ m)).length then 3 else 0) := Lib.hid (by unfold mrgE; rw [if_neg h1, if_neg h2])
      rw [if_neg h2] at C1
      have hna : na ≤ 1024 := by have := LA.out; omega
      have hnb : nb ≤ 1024 := by have := LB.out; omega
      clear h1 h2
      go_enter Try.func39, Try.ntmps39
      go_wp2_with fail
      refine C1.out.mono ?_
      rintro e w2 ⟨rfl, g2⟩
      have B2 := Lib.hid (B1.out.trans (g2.below.mono B1.out.size))
      have P2 := Lib.hid (pair_any w2 a b na ca nb cb l m (HA.out.more B2.out) (HB.out.more B2.out) 44)
      have A2 := Lib.hid (ascending_any w2.heap.size 2 2 [⟨a, na, ca, l⟩, ⟨b, nb, cb, m⟩] rfl (by decide) (by simp [sumN]; omega) _ P2.out)
      have B3 : Hid (Below w.heap.size w (w2.alloc (.cells #[.slice a na ca, .slice b nb cb] 44))) := Lib.hid (B2.out.alloc B2.out.size _)
      rw [show catN [⟨a, na, ca, l⟩, ⟨b, nb, cb, m⟩] 2 = l ++ m by simp [catN]] at A2
      unfold OwnO at A2
      have GOOD := Lib.hid (fun h w' a n cap hn ho hb => mrg_good w w' (l := l) (m := m) h (a := a) (n := n) (cap := cap) hn ho hb)
      have BAD := Lib.hid (fun h w' hb => mrg_three w w' (l := l) (m := m) (x := 3) h (by decide) hb)
      have NE : Hid ((setL cmpE (l ++ m)).length ≤ 2048) := Lib.hid (by have := setL_length (cmp := cmpE) (l ++ m); have := LA.out; have := LB.out; simp at *; omega)
      clear g2 C1 B1 P1 P2 B2
      generalize setL cmpE (l ++ m) = M at *
      generalize hN : M.length = N at *
      have HN := Lib.hid hN
      have hN2 : N ≤ 2048 := NE.out
      clear hN NE
      go_wp2_with fail
      refine A2.out.mono ?_
      rintro e w4 ⟨a4, cap4, rfl, ho, hb4⟩
      have HO := Lib.hid ho
      have B4 := Lib.hid (B3.out.trans (hb4.mono B3.out.size))
      have SZ := Lib.hid B3.out.size
      clear ho hb4 A2 B3
      by_cases h3 : 1024 < N
      · have t3 : decide ((1024 : Int) < (N : Int)) = true := decide_eq_true (by omega)
        have t4 : decide (1024 < N) = true := decide_eq_true h3
        rw [if_pos h3] at E
        clear h3
        go_wp2_with fail
        go_ret2
        exact BAD.out E.out _ B4.out
      · have t3 : decide ((1024 : Int) < (N : Int)) = false := decide_eq_false (by omega)
        have t4 : decide (1024 < N) = false := decide_eq_false h3
        rw [if_neg h3] at E
        clear h3
        go_wp2_with fail
        go_ret2
        refine GOOD.out E.out _ a4 N cap4 rfl ?_ B4.out
        rcases HO.out with h | ⟨g, h1, h2, h3, h4, h5⟩
        · exact .inl h
        · exact .inr ⟨g, h1, h2, Nat.le_trans SZ.out h3, h4, by rw [HN.out]; exact h5⟩
end Go.Proofs.Ytebdldinlodgpaa.Ib
