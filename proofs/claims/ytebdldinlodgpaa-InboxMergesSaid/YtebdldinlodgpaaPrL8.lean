/-
  Layer 8 (inbox): the law's same (at lists that are alike) and merges. Conditions: the lists read as events.
-/
import Derived.Test.YtebdldinlodgpaaPrIu
import Derived.Test.YtebdldinlodgpaaPrIi
import Derived.Deep.DeepCutAuto
namespace Go.Proofs.Ytebdldinlodgpaa.Ib
open Go Go.RowKit Go.Lib Go.Sort Go.Shelf Go.Proofs Go.Proofs.Ytebdldinlodgpaa Go.Proofs.Ytebdldinlodgpaa.Tp Go.Proofs.Ytebdldinlodgpaa.Gm Go.Proofs.Ytebdldinlodgpaa.Rc Go.Proofs.Ytebdldinlodgpaa.SE
set_option linter.unusedVariables false
set_option maxRecDepth 100000 in
set_option maxHeartbeats 4000000 in
theorem same8_any (a : Option Addr) (n ca : Nat) (b : Option Addr) (cb : Nat) (l : List Ev) (w : World) (ha : Lst w a n ca l) (hb : Lst w b n cb l) :
    Calls Try.prog 40 #[.slice a n ca, .slice b n cb] w (TruE w) := by
  have HA := Lib.hid ha
  have HB := Lib.hid hb
  have hn : n ≤ 9223372036854775807 := ha.2.2
  clear ha hb
  have mixed : Try.prog.follows Departure.mixedOrders = true := by kernel_rfl
  have tn : ((n : Int) != (n : Int)) = false := by simp
  go_enter Try.func40, Try.ntmps40
  go_wp2_with fail
  go_loopw [5] (fun x wr => ∃ k : Nat, k ≤ n ∧ x = .int .i64 k ∧ Hid (Gr w wr)) (fun x _ => n - (intOf x).toNat)
  case atStart => exact ⟨0, by omega, rfl, Lib.hid (Gr.refl w)⟩
  case round =>
    obtain ⟨k, hk, rfl, HG⟩ := hrel
    by_cases hlt : k < n
    · have t0 : decide ((k : Int) < (n : Int)) = true := decide_eq_true (by omega)
      have i1 : (k : Int) < (n : Int) := by omega
      obtain ⟨x, hx0, hxb, hx⟩ := HA.out.1.2 (by omega)
      obtain ⟨y, hy0, hyb, hy⟩ := HB.out.1.2 (by omega)
      subst hx0
      subst hy0
      have L1 : ∀ P : GrBy wr, At4 P.W (x.add (k * 7)) l[k]! := fun P => (hx k hlt).block ((HG.out.trans P.h).below.block _ (hx k hlt).lt)
      have L2 : ∀ P : GrBy wr, At4 P.W (y.add (k * 7)) l[k]! := fun P => (hy k hlt).block ((HG.out.trans P.h).below.block _ (hy k hlt).lt)
      clear hx hy hxb hyb
      generalize l[k]! = c at L1 L2
      obtain ⟨kt, ks, em, ti, ki, tt, ts⟩ := c
      have a0 := fun P : GrBy wr => (L1 P).1
      have e0 := fun P : GrBy wr => (L2 P).1
      have a1 := fun P : GrBy wr => (L1 P).2.1
      have e1 := fun P : GrBy wr => (L2 P).2.1
      have a2 := fun P : GrBy wr => (L1 P).2.2.1
      have e2 := fun P : GrBy wr => (L2 P).2.2.1
      have a3 := fun P : GrBy wr => (L1 P).2.2.2.1
      have e3 := fun P : GrBy wr => (L2 P).2.2.2.1
      have a4 := fun P : GrBy wr => (L1 P).2.2.2.2.1
      have e4 := fun P : GrBy wr => (L2 P).2.2.2.2.1
      have a5 := fun P : GrBy wr => (L1 P).2.2.2.2.2.1
      have e5 := fun P : GrBy wr => (L2 P).2.2.2.2.2.1
      have a6 := fun P : GrBy wr => (L1 P).2.2.2.2.2.2
      have e6 := fun P : GrBy wr => (L2 P).2.2.2.2.2.2
      simp only at a0 a1 a2 a3 a4 a5 a6 e0 e1 e2 e3 e4 e5 e6
      have HF := fun W => neq_ev ⟨kt, ks, em, ti, ki, tt, ts⟩ ⟨kt, ks, em, ti, ki, tt, ts⟩ W
      have HG2 := fun op a b W => run_eqGuard_agg (P := Try.prog) W op 26 a b #[.int .i64 kt, .int .i64 ks, .int .i64 em, .int .i64 ti, .int .i64 ki, .int .i64 tt, .int .i64 ts] #[.int .i64 kt, .int .i64 ks, .int .i64 em, .int .i64 ti, .int .i64 ki, .int .i64 tt, .int .i64 ts] grd_ev
      simp only [eqE_self] at HF
      clear L1 L2
      go_wp2_with fail
      refine wp_region_quiet_gr (w0 := wr) mixed (by kernel_rfl) (Gr.refl _) ?_
      repeat (go_big_quiet_step (fail))
      refine wpQuiet_nil ?_
      intro w8 hz8
      obtain ⟨⟨w8', g8⟩, hz9⟩ := hz8
      subst hz9
      have G8 := Lib.hid (HG.out.trans g8)
      clear a0 a1 a2 a3 a4 a5 a6 e0 e1 e2 e3 e4 e5 e6 HF HG2 g8
      go_wp2_with fail
      go_roundw
      case rel => exact ⟨k + 1, by omega, by go_num, G8⟩
      case measure => simp [intOf]; omega
    · obtain rfl : k = n := by omega
      have t0 : decide ((k : Int) < (k : Int)) = false := decide_eq_false (by omega)
      go_wp2_with fail
      go_ret
      exact ⟨rfl, HG.out.below⟩
theorem OwnP.lst {l : List Ev} {w w' : World} {a : Option Addr} {cap : Nat} (h : OwnP l w a cap w') (hl : l.length ≤ 9223372036854775807) : Lst w' a l.length cap l := OwnO.lst h hl
theorem mrgL_le (l m : List Ev) : (mrgL l m).length ≤ 1024 := by
  unfold mrgL
  split
  · rename_i h
    unfold mrgE at h
    split at h
    · cases h
    · split at h
      · cases h
      · split at h
        · cases h
        · omega
  · simp
set_option maxRecDepth 100000 in
set_option maxHeartbeats 4000000 in
theorem merges_any (a : Option Addr) (na ca : Nat) (l : List Ev) (b : Option Addr) (nb cb : Nat) (m : List Ev) (w : World) (ha : Lst w a na ca l) (hb : Lst w b nb cb m) :
    Calls Try.prog 32 #[.slice a na ca, .slice b nb cb] w (TruE w) := by
  have HA := Lib.hid ha
  have HB := Lib.hid hb
  have M1 := Lib.hid (merge_any a na ca l b nb cb m w ha hb)
  have M2 := Lib.hid (fun W h1 h2 => rmerge_any a na ca l b nb cb m W h1 h2)
  have ML := Lib.hid (mrgL_le l m)
  clear ha hb
  unfold MrgR at M1 M2
  generalize mrgL l m = R at *
  generalize mrgE l m = E at *
  generalize hN : R.length = N at *
  have HN := Lib.hid hN
  clear hN
  have te : (E == E) = true := by simp
  go_enter Try.func32, Try.ntmps32
  go_wp2_with fail
  refine M1.out.mono ?_
  rintro e w1 ⟨a1, c1, rfl, ho1, hb1⟩
  have B1 := Lib.hid hb1
  have L1 := Lib.hid (OwnP.lst ho1 (by have := ML.out; have := HN.out; omega))
  rw [HN.out] at L1
  have M3 := Lib.hid (M2.out w1 (HA.out.more hb1) (HB.out.more hb1))
  clear ho1 hb1 M1 M2 HA HB
  go_wp2_with fail
  refine M3.out.mono ?_
  rintro e w2 ⟨a2, c2, rfl, ho2, hb2⟩
  have B2 := Lib.hid (B1.out.trans (hb2.mono B1.out.size))
  have L2 := Lib.hid (OwnP.lst ho2 (by have := ML.out; have := HN.out; omega))
  rw [HN.out] at L2
  have S := Lib.hid (same8_any a1 N c1 a2 c2 R w2 (L1.out.more hb2) L2.out)
  clear ho2 hb2 M3 L1 L2 ML HN
  unfold TruE at S
  go_wp2_with (go_at_call 40; refine S.out.mono ?_; rintro e w3 ⟨rfl, hb3⟩)
  have B3 := Lib.hid (B2.out.trans (hb3.mono B2.out.size))
  clear hb3 S
  go_wp2_with fail
  go_ret
  exact ⟨by simp, B3.out⟩
end Go.Proofs.Ytebdldinlodgpaa.Ib
