/-
  Layer 6 (timeline): contracts of the reference's value, next and At. Condition: the list reads as changes.
-/
import Derived.Test.YtdpgmjmmnjbbiaaPrVc
namespace Go.Proofs.Ytdpgmjmmnjbbiaa.Tl
open Go Go.RowKit Go.Lib Go.Sort Go.Shelf Go.Proofs Go.Proofs.Ytdpgmjmmnjbbiaa Go.Proofs.Ytdpgmjmmnjbbiaa.Tp
set_option linter.unusedVariables false

def seen (cs : List Chg) (i : Nat) : Option Int := if i = 0 then none else some cs[i - 1]!.va
set_option maxRecDepth 100000 in
set_option maxHeartbeats 4000000 in
theorem rvalue_any (a : Option Addr) (n cap : Nat) (cs : List Chg) (d : Int) (hn : n ≤ 1000000) (w : World) (hr : ChgRow w w.heap.size a n cs) :
    Calls Try.prog 34 #[.slice a n cap, .int .i64 d] w (ValR (valF d none cs) w) := by
  have HR := Lib.hid hr
  have LEN := Lib.hid hr.1
  clear hr
  have FIN : Hid (∀ i, i ≤ n → (∀ t, t < i → cs[t]!.fr ≤ d) → (i < n → d < cs[i]!.fr) → valF d none cs = seen cs i) := Lib.hid (fun i hi h1 h2 => valF_at d cs none i (by rw [LEN.out]; exact hi) h1 (by rw [LEN.out]; exact h2))
  go_enter Try.func34, Try.ntmps34
  go_wp2_with fail
  go_loopw [6, 7, 8] (fun vv oo z wr => ∃ (i : Nat) (o : Option Int), i ≤ n ∧ z = .int .i64 i ∧ vv = .int .i64 (o.getD 0) ∧ oo = .bool o.isSome ∧ Hid (o = seen cs i) ∧ Hid (∀ t, t < i → cs[t]!.fr ≤ d) ∧ Hid (Below w.heap.size w wr)) (fun _ _ z _ => n - (intOf z).toNat)
  case atStart => exact ⟨0, none, by omega, rfl, rfl, rfl, Lib.hid rfl, Lib.hid (fun t h => absurd h (by omega)), Lib.hid (Below.refl _ _)⟩
  case round =>
    obtain ⟨i, o, hi, rfl, rfl, rfl, HO, HL, HB⟩ := hrel
    by_cases hlt : i < n
    · have hd0 : decide ((i : Int) < (n : Int)) = true := decide_eq_true (by omega)
      have i0 : (0 : Int) ≤ (i : Int) := by omega
      have i1 : (i : Int) < (n : Int) := by omega
      obtain ⟨x, hx, _, hc⟩ := (HR.out.below HB.out).2 (by omega)
      obtain ⟨a0, _, a2, _⟩ := hc i hlt
      have F1 := Lib.hid (FIN.out i hi HL.out)
      have SN := Lib.hid (show some cs[i]!.va = seen cs (i + 1) by unfold seen; rw [if_neg (by omega), Nat.add_sub_cancel])
      have LS := Lib.hid (fun (h : cs[i]!.fr ≤ d) => (show ∀ t, t < i + 1 → cs[t]!.fr ≤ d from fun t ht => by
        by_cases e : t = i
        · subst e; exact h
        · exact HL.out t (by omega)))
      subst hx
      clear hc
      generalize cs[i]! = c at *
      obtain ⟨f, kn, va, de⟩ := c
      simp only at a0 a2
      by_cases h1 : f ≤ d
      · have t1 : decide (f ≤ d) = true := decide_eq_true h1
        go_wp2_with fail
        go_roundw
        case rel => exact ⟨i + 1, some va, by omega, by go_num, rfl, rfl, SN, Lib.hid (LS.out h1), HB⟩
        case measure => simp [intOf]; omega
      · have t1 : decide (f ≤ d) = false := decide_eq_false h1
        have EV := Lib.hid ((F1.out (fun _ => by show d < f; omega)).trans HO.out.symm)
        go_wp2_with fail
        go_ret2
        unfold ValR
        rw [EV.out]
        exact ⟨rfl, HB.out⟩
    · have hd0 : decide ((i : Int) < (n : Int)) = false := decide_eq_false (by omega)
      have EV := Lib.hid ((FIN.out i hi HL.out (fun h => absurd h hlt)).trans HO.out.symm)
      go_wp2_with fail
      go_ret2
      unfold ValR
      rw [EV.out]
      exact ⟨rfl, HB.out⟩

set_option maxRecDepth 100000 in
set_option maxHeartbeats 4000000 in
theorem rnext_any (a : Option Addr) (n cap : Nat) (cs : List Chg) (d td : Int) (h0 : 0 ≤ td) (h1 : td ≤ 84005) (hn : n ≤ 1000000) (w : World) (hr : ChgRow w w.heap.size a n cs) :
    Calls Try.prog 40 #[.slice a n cap, .int .i64 d, .int .i64 td] w (ErrR (nextF d (td + 1) cs) w) := by
  have HR := Lib.hid hr
  have LEN := Lib.hid hr.1
  have w1 : IntKind.i64.wrap (td + 1) = td + 1 := by rw [IntKind.wrap_i64]; omega
  clear hr h0 h1
  obtain ⟨R, hR⟩ : ∃ R, R = nextF d (td + 1) cs := ⟨_, rfl⟩
  rw [← hR]
  have ER := Lib.hid hR
  clear hR
  go_enter Try.func40, Try.ntmps40
  go_wp2_with fail
  clear w1
  go_loopw [7, 8] (fun v z wr => ∃ (i : Nat) (m : Int), i ≤ n ∧ z = .int .i64 i ∧ v = .int .i64 m ∧ Hid (R = nextF d m (cs.drop i)) ∧ Hid (Below w.heap.size w wr)) (fun _ z _ => n - (intOf z).toNat)
  case atStart => exact ⟨0, td + 1, by omega, rfl, rfl, ER, Lib.hid (Below.refl _ _)⟩
  case round =>
    obtain ⟨i, m, hi, rfl, rfl, HE, HB⟩ := hrel
    by_cases hlt : i < n
    · have hd0 : decide ((i : Int) < (n : Int)) = true := decide_eq_true (by omega)
      have i0 : (0 : Int) ≤ (i : Int) := by omega
      have i1 : (i : Int) < (n : Int) := by omega
      obtain ⟨x, hx, _, hc⟩ := (HR.out.below HB.out).2 (by omega)
      obtain ⟨a0, _, _, _⟩ := hc i hlt
      have HN := Lib.hid (show R = nextF d (if d < cs[i]!.fr ∧ cs[i]!.fr < m then cs[i]!.fr else m) (cs.drop (i + 1)) by
        have h9 : i < cs.length := by rw [LEN.out]; exact hlt
        rw [HE.out, List.drop_eq_getElem_cons h9, nextF, getElem!_pos cs i h9])
      subst hx
      clear hc HE
      generalize cs[i]!.fr = f at *
      by_cases h2 : d < f
      · have t2 : decide (d < f) = true := decide_eq_true h2
        by_cases h3 : f < m
        · have t3 : decide (f < m) = true := decide_eq_true h3
          rw [if_pos ⟨h2, h3⟩] at HN
          go_wp2_with fail
          go_roundw
          case rel => exact ⟨i + 1, f, by omega, by go_num, rfl, HN, HB⟩
          case measure => simp [intOf]; omega
        · have t3 : decide (f < m) = false := decide_eq_false h3
          rw [if_neg (fun h => h3 h.2)] at HN
          go_wp2_with fail
          go_roundw
          case rel => exact ⟨i + 1, m, by omega, by go_num, rfl, HN, HB⟩
          case measure => simp [intOf]; omega
      · have t2 : decide (d < f) = false := decide_eq_false h2
        rw [if_neg (fun h => h2 h.1)] at HN
        go_wp2_with fail
        go_roundw
        case rel => exact ⟨i + 1, m, by omega, by go_num, rfl, HN, HB⟩
        case measure => simp [intOf]; omega
    · have hd0 : decide ((i : Int) < (n : Int)) = false := decide_eq_false (by omega)
      have E := Lib.hid (show R = m by rw [HE.out, List.drop_eq_nil_of_le (by rw [LEN.out]; omega)]; rfl)
      clear HE ER
      go_wp2_with fail
      go_ret
      rw [E.out]
      exact ⟨rfl, HB.out⟩

set_option maxRecDepth 100000 in
set_option maxHeartbeats 2000000 in
theorem rat_any (a : Option Addr) (n cap : Nat) (cs : List Chg) (d k : Int) (w : World) (h : Lst w a n cap cs) :
    Calls Try.prog 18 #[.slice a n cap, .int .i64 d, .int .i64 k] w (AtR cs d k w) := by
  have H := Lib.hid h
  have CV := Lib.hid (rvalid_any a n cap cs h.2.2 w h.1)
  clear h
  by_cases hv : valE cs = 0
  · have n1 := (valE_ok hv).1
    have n2 : n ≤ 1024 := by rw [← H.out.1.1]; exact n1
    by_cases hd : 0 ≤ d ∧ d ≤ 84005
    · have EO := Lib.hid (show atO cs d k = valL cs k d from if_pos ⟨hv, hd⟩)
      have EE := Lib.hid (show atE cs d = 0 by unfold atE; rw [if_neg (by simp [hv]), if_pos hd])
      have t1 : decide (d < 0) = false := decide_eq_false (by omega)
      have t2 : decide (84005 < d) = false := decide_eq_false (by omega)
      rw [hv] at CV
      clear hv n1
      go_enter Try.func18, Try.ntmps18
      go_wp2_with fail
      refine CV.out.mono ?_
      rintro e w1 ⟨rfl, hw1⟩
      have H1 := Lib.hid (H.out.more hw1)
      have B1 := Lib.hid hw1
      clear hw1 H
      go_wp2_with fail
      refine (rin_any a n cap cs k n2 _ H1.out).mono ?_
      rintro e w2 ⟨a2, c2, rfl, h2, b2⟩
      have n3 := inL_length cs k
      have R2 := Lib.hid (h2.lst (by have := H1.out.1.1; omega))
      have B2 := Lib.hid (B1.out.trans (b2.mono B1.out.size))
      have CW := Lib.hid (rvalue_any a2 (inL cs k).length c2 (inL cs k) d (by have := H1.out.1.1; omega) w2 R2.out.1)
      rw [show valF d none (inL cs k) = valL cs k d from rfl] at CW
      clear h2 b2 n3
      generalize (inL cs k).length = m at *
      go_wp2_with fail
      refine CW.out.mono ?_
      rintro e w3 ⟨rfl, b3⟩
      have B3 := Lib.hid (B2.out.trans (b3.mono B2.out.size))
      clear b3
      go_wp2_with fail
      go_ret3
      unfold AtR
      rw [EO.out, EE.out]
      exact ⟨rfl, B3.out⟩
    · have EO := Lib.hid (show atO cs d k = none from if_neg fun h => hd h.2)
      have EE := Lib.hid (show atE cs d = 2 by unfold atE; rw [if_neg (by simp [hv]), if_neg hd])
      rw [hv] at CV
      clear hv n1
      by_cases q : d < 0
      · have t1 : decide (d < 0) = true := decide_eq_true q
        go_enter Try.func18, Try.ntmps18
        go_wp2_with fail
        refine CV.out.mono ?_
        rintro e w1 ⟨rfl, hw1⟩
        have B1 := Lib.hid hw1
        clear hw1 H
        go_wp2_with fail
        go_ret3
        unfold AtR
        rw [EO.out, EE.out]
        exact ⟨rfl, B1.out⟩
      · have t1 : decide (d < 0) = false := decide_eq_false q
        have t2 : decide (84005 < d) = true := decide_eq_true (by omega)
        go_enter Try.func18, Try.ntmps18
        go_wp2_with fail
        refine CV.out.mono ?_
        rintro e w1 ⟨rfl, hw1⟩
        have B1 := Lib.hid hw1
        clear hw1 H
        go_wp2_with fail
        go_ret3
        unfold AtR
        rw [EO.out, EE.out]
        exact ⟨rfl, B1.out⟩
  · have EO := Lib.hid (show atO cs d k = none from if_neg fun h => hv h.1)
    have EE := Lib.hid (show atE cs d = valE cs by unfold atE; rw [if_pos hv])
    have t0 : (valE cs != 0) = true := by simpa using hv
    generalize valE cs = c at *
    clear hv
    go_enter Try.func18, Try.ntmps18
    go_wp2_with fail
    refine CV.out.mono ?_
    rintro e w1 ⟨rfl, hw1⟩
    have B1 := Lib.hid hw1
    clear hw1 H
    go_wp2_with fail
    go_ret3
    unfold AtR
    rw [EO.out, EE.out]
    exact ⟨rfl, B1.out⟩
end Go.Proofs.Ytdpgmjmmnjbbiaa.Tl
