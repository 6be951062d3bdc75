/-
  Layer 8 (inbox): the law's sane. No condition.
-/
import Derived.Test.YtebdldinlodgpaaPrIj
import Derived.Test.YtebdldinlodgpaaPrQg
namespace Go.Proofs.Ytebdldinlodgpaa.Ib
open Go Go.RowKit Go.Lib Go.Sort Go.Shelf Go.Proofs Go.Proofs.Ytebdldinlodgpaa Go.Proofs.Ytebdldinlodgpaa.Tp Go.Proofs.Ytebdldinlodgpaa.Gm Go.Proofs.Ytebdldinlodgpaa.Rc Go.Proofs.Ytebdldinlodgpaa.SE
set_option linter.unusedVariables false
def eqS (x y : SS.St) : Bool := decide (x.ti = y.ti) && decide (x.ki = y.ki) && decide (x.kt = y.kt) && decide (x.ks = y.ks)
set_option maxRecDepth 100000 in
theorem equal_st (x y : SS.St) (w : World) : (Op.equalIn 10000 70 (.agg #[.int .i64 x.ti, .int .i64 x.ki, .int .i64 x.kt, .int .i64 x.ks]) (.agg #[.int .i64 y.ti, .int .i64 y.ki, .int .i64 y.kt, .int .i64 y.ks])).run Try.prog w = .ok (eqS x y) w := by
  have hS : Try.prog.underlying 70 = some (.struct (Try.prog.fieldsOf 70)) := by kernel_rfl
  have hp : Try.prog.stoodInHeld 70 = false := by kernel_rfl
  have hS2 : Try.prog.underlying 24 = some (.struct (Try.prog.fieldsOf 24)) := by kernel_rfl
  have hp2 : Try.prog.stoodInHeld 24 = false := by kernel_rfl
  have u3 := Try.underlying3
  have a3 := Try.isAgg3
  have z3 := Try.sizeOf3
  have u4 := Try.underlying24
  have a4 := Try.isAgg24
  have z4 := Try.sizeOf24
  have HK := fun a b c d W => equal_key a b c d W
  rw [show (10000 : Nat) = 9999 + 1 from rfl, run_equalIn_agg w 9999 70 _ _ hS hp]
  simp only [Program.fieldsOf, Try.underlying70]
  go_simp
  unfold eqS
  by_cases h1 : x.ti = y.ti <;> by_cases h2 : x.ki = y.ki <;> by_cases h3 : x.kt = y.kt <;> by_cases h4 : x.ks = y.ks <;> simp [h1, h2, h3, h4]
theorem eql_st (x y : SS.St) (w : World) : (binOp .eql 70 (.agg #[.int .i64 x.ti, .int .i64 x.ki, .int .i64 x.kt, .int .i64 x.ks]) (.agg #[.int .i64 y.ti, .int .i64 y.ki, .int .i64 y.kt, .int .i64 y.ks])).run Try.prog w = .ok (.bool (eqS x y)) w := by
  rw [run_eql_struct, equal_st]; rfl
theorem grd_st : Try.prog.eqGuardType Try.prog.depth 70 = false := by kernel_rfl
def TruE (w : World) (e : Ending) (w' : World) : Prop := e = .returned (.bool true) ∧ Below w.heap.size w w'
set_option maxRecDepth 100000 in
set_option maxHeartbeats 8000000 in
theorem sane_any (w : World) : Calls Try.prog 36 #[] w (TruE w) := by
  have B0 : Hid (Below w.heap.size w ((((w.alloc (.cells #[.int .i64 1, .int .i64 5, .int .i64 1, .int .i64 480, .int .i64 1, .int .i64 0, .int .i64 0] 26)).alloc (.cells #[.int .i64 1, .int .i64 6, .int .i64 1, .int .i64 470, .int .i64 6, .int .i64 1, .int .i64 5] 26)).alloc (.cells #[.int .i64 2, .int .i64 1, .int .i64 1, .int .i64 475, .int .i64 6, .int .i64 1, .int .i64 5] 26)).alloc (.cells #[.int .i64 1, .int .i64 5, .int .i64 1, .int .i64 481, .int .i64 1, .int .i64 0, .int .i64 0] 26))) := Lib.hid (((((Below.refl _ _).alloc (Nat.le_refl _) _).alloc (by simp) _).alloc (by simp; omega) _).alloc (by simp; omega) _)
  have ZI : Hid (At4 ((((w.alloc (.cells #[.int .i64 1, .int .i64 5, .int .i64 1, .int .i64 480, .int .i64 1, .int .i64 0, .int .i64 0] 26)).alloc (.cells #[.int .i64 1, .int .i64 6, .int .i64 1, .int .i64 470, .int .i64 6, .int .i64 1, .int .i64 5] 26)).alloc (.cells #[.int .i64 2, .int .i64 1, .int .i64 1, .int .i64 475, .int .i64 6, .int .i64 1, .int .i64 5] 26)).alloc (.cells #[.int .i64 1, .int .i64 5, .int .i64 1, .int .i64 481, .int .i64 1, .int .i64 0, .int .i64 0] 26)) ⟨w.heap.size, 0, none⟩ evI) := Lib.hid (by unfold At4 evI; refine ⟨?_, ?_, ?_, ?_, ?_, ?_, ?_⟩ <;> go_simp)
  have ZB : Hid (At4 ((((w.alloc (.cells #[.int .i64 1, .int .i64 5, .int .i64 1, .int .i64 480, .int .i64 1, .int .i64 0, .int .i64 0] 26)).alloc (.cells #[.int .i64 1, .int .i64 6, .int .i64 1, .int .i64 470, .int .i64 6, .int .i64 1, .int .i64 5] 26)).alloc (.cells #[.int .i64 2, .int .i64 1, .int .i64 1, .int .i64 475, .int .i64 6, .int .i64 1, .int .i64 5] 26)).alloc (.cells #[.int .i64 1, .int .i64 5, .int .i64 1, .int .i64 481, .int .i64 1, .int .i64 0, .int .i64 0] 26)) ⟨w.heap.size + 1 + 1, 0, none⟩ evB) := Lib.hid (by unfold At4 evB; refine ⟨?_, ?_, ?_, ?_, ?_, ?_, ?_⟩ <;> go_simp)
  have ZO : Hid (At4 ((((w.alloc (.cells #[.int .i64 1, .int .i64 5, .int .i64 1, .int .i64 480, .int .i64 1, .int .i64 0, .int .i64 0] 26)).alloc (.cells #[.int .i64 1, .int .i64 6, .int .i64 1, .int .i64 470, .int .i64 6, .int .i64 1, .int .i64 5] 26)).alloc (.cells #[.int .i64 2, .int .i64 1, .int .i64 1, .int .i64 475, .int .i64 6, .int .i64 1, .int .i64 5] 26)).alloc (.cells #[.int .i64 1, .int .i64 5, .int .i64 1, .int .i64 481, .int .i64 1, .int .i64 0, .int .i64 0] 26)) ⟨w.heap.size + 1 + 1 + 1, 0, none⟩ evO) := Lib.hid (by unfold At4 evO; refine ⟨?_, ?_, ?_, ?_, ?_, ?_, ?_⟩ <;> go_simp)
  have SZ : ((((w.alloc (.cells #[.int .i64 1, .int .i64 5, .int .i64 1, .int .i64 480, .int .i64 1, .int .i64 0, .int .i64 0] 26)).alloc (.cells #[.int .i64 1, .int .i64 6, .int .i64 1, .int .i64 470, .int .i64 6, .int .i64 1, .int .i64 5] 26)).alloc (.cells #[.int .i64 2, .int .i64 1, .int .i64 1, .int .i64 475, .int .i64 6, .int .i64 1, .int .i64 5] 26)).alloc (.cells #[.int .i64 1, .int .i64 5, .int .i64 1, .int .i64 481, .int .i64 1, .int .i64 0, .int .i64 0] 26)).heap.size = w.heap.size + 1 + 1 + 1 + 1 := by simp
  have EF := Lib.hid (effective_any (some ⟨((((w.alloc (.cells #[.int .i64 1, .int .i64 5, .int .i64 1, .int .i64 480, .int .i64 1, .int .i64 0, .int .i64 0] 26)).alloc (.cells #[.int .i64 1, .int .i64 6, .int .i64 1, .int .i64 470, .int .i64 6, .int .i64 1, .int .i64 5] 26)).alloc (.cells #[.int .i64 2, .int .i64 1, .int .i64 1, .int .i64 475, .int .i64 6, .int .i64 1, .int .i64 5] 26)).alloc (.cells #[.int .i64 1, .int .i64 5, .int .i64 1, .int .i64 481, .int .i64 1, .int .i64 0, .int .i64 0] 26)).heap.size, 0, none⟩) 4 4 [evB, evA, evI, evO] 1 (((((w.alloc (.cells #[.int .i64 1, .int .i64 5, .int .i64 1, .int .i64 480, .int .i64 1, .int .i64 0, .int .i64 0] 26)).alloc (.cells #[.int .i64 1, .int .i64 6, .int .i64 1, .int .i64 470, .int .i64 6, .int .i64 1, .int .i64 5] 26)).alloc (.cells #[.int .i64 2, .int .i64 1, .int .i64 1, .int .i64 475, .int .i64 6, .int .i64 1, .int .i64 5] 26)).alloc (.cells #[.int .i64 1, .int .i64 5, .int .i64 1, .int .i64 481, .int .i64 1, .int .i64 0, .int .i64 0] 26)).alloc (.cells #[.int .i64 2, .int .i64 1, .int .i64 1, .int .i64 475, .int .i64 6, .int .i64 1, .int .i64 5, .int .i64 1, .int .i64 6, .int .i64 1, .int .i64 470, .int .i64 6, .int .i64 1, .int .i64 5, .int .i64 1, .int .i64 5, .int .i64 1, .int .i64 480, .int .i64 1, .int .i64 0, .int .i64 0, .int .i64 1, .int .i64 5, .int .i64 1, .int .i64 481, .int .i64 1, .int .i64 0, .int .i64 0] 26)) (lst_lit _ [evB, evA, evI, evO] 4 rfl (by decide) _))
  unfold EffR at EF
  rw [eff_ex, eff_ex0, SZ] at EF
  have CO := Lib.hid (fun (W : World) => conflicts_any (some ⟨W.heap.size, 0, none⟩) 2 2 [evO, evI] (W.alloc (.cells #[.int .i64 1, .int .i64 5, .int .i64 1, .int .i64 481, .int .i64 1, .int .i64 0, .int .i64 0, .int .i64 1, .int .i64 5, .int .i64 1, .int .i64 480, .int .i64 1, .int .i64 0, .int .i64 0] 26)) (lst_lit _ [evO, evI] 2 rfl (by decide) _))
  unfold ConR at CO
  rw [con_ex, con_ex0] at CO
  have MG := Lib.hid (fun (W : World) => merge_any (some ⟨W.heap.size, 0, none⟩) 2 2 [evB, evI] (some ⟨(W.alloc (.cells #[.int .i64 2, .int .i64 1, .int .i64 1, .int .i64 475, .int .i64 6, .int .i64 1, .int .i64 5, .int .i64 1, .int .i64 5, .int .i64 1, .int .i64 480, .int .i64 1, .int .i64 0, .int .i64 0] 26)).heap.size, 0, none⟩) 1 1 [evI] ((W.alloc (.cells #[.int .i64 2, .int .i64 1, .int .i64 1, .int .i64 475, .int .i64 6, .int .i64 1, .int .i64 5, .int .i64 1, .int .i64 5, .int .i64 1, .int .i64 480, .int .i64 1, .int .i64 0, .int .i64 0] 26)).alloc (.cells #[.int .i64 1, .int .i64 5, .int .i64 1, .int .i64 480, .int .i64 1, .int .i64 0, .int .i64 0] 26)) ((lst_lit _ [evB, evI] 2 rfl (by decide) _).more ((Below.refl _ _).alloc (Nat.le_refl _) _)) (lst_lit _ [evI] 1 rfl (by decide) _))
  unfold MrgR at MG
  rw [mrg_ex, mrg_ex0] at MG
  go_enter Try.func36, Try.ntmps36
  go_wp2_with fail
  refine EF.out.mono ?_
  rintro e w2 ⟨a, cap, rfl, ho, hb⟩
  rcases ho with ⟨_, h, _⟩ | ⟨g1, rfl, hr1, _, hg1, _⟩
  · cases h
  have G2 := Lib.hid ((((Below.refl _ ((((w.alloc (.cells #[.int .i64 1, .int .i64 5, .int .i64 1, .int .i64 480, .int .i64 1, .int .i64 0, .int .i64 0] 26)).alloc (.cells #[.int .i64 1, .int .i64 6, .int .i64 1, .int .i64 470, .int .i64 6, .int .i64 1, .int .i64 5] 26)).alloc (.cells #[.int .i64 2, .int .i64 1, .int .i64 1, .int .i64 475, .int .i64 6, .int .i64 1, .int .i64 5] 26)).alloc (.cells #[.int .i64 1, .int .i64 5, .int .i64 1, .int .i64 481, .int .i64 1, .int .i64 0, .int .i64 0] 26))).alloc (Nat.le_refl _) (.cells #[.int .i64 2, .int .i64 1, .int .i64 1, .int .i64 475, .int .i64 6, .int .i64 1, .int .i64 5, .int .i64 1, .int .i64 6, .int .i64 1, .int .i64 470, .int .i64 6, .int .i64 1, .int .i64 5, .int .i64 1, .int .i64 5, .int .i64 1, .int .i64 480, .int .i64 1, .int .i64 0, .int .i64 0, .int .i64 1, .int .i64 5, .int .i64 1, .int .i64 481, .int .i64 1, .int .i64 0, .int .i64 0] 26))).trans (hb.mono (by simp)))
  have Y1 : Hid (SS.At4 w2 ⟨g1, 0, none⟩ ⟨475, 1, 1, 5⟩) := Lib.hid (hr1.cell 0 (by decide))
  clear hb hr1 EF
  generalize ((((w.alloc (.cells #[.int .i64 1, .int .i64 5, .int .i64 1, .int .i64 480, .int .i64 1, .int .i64 0, .int .i64 0] 26)).alloc (.cells #[.int .i64 1, .int .i64 6, .int .i64 1, .int .i64 470, .int .i64 6, .int .i64 1, .int .i64 5] 26)).alloc (.cells #[.int .i64 2, .int .i64 1, .int .i64 1, .int .i64 475, .int .i64 6, .int .i64 1, .int .i64 5] 26)).alloc (.cells #[.int .i64 1, .int .i64 5, .int .i64 1, .int .i64 481, .int .i64 1, .int .i64 0, .int .i64 0] 26)) = wb at *
  have ZI2 := Lib.hid (ZI.out.block (G2.out.block _ ZI.out.lt))
  have ZB2 := Lib.hid (ZB.out.block (G2.out.block _ ZB.out.lt))
  have ZO2 := Lib.hid (ZO.out.block (G2.out.block _ ZO.out.lt))
  have B2 := Lib.hid (B0.out.trans (G2.out.mono B0.out.size))
  clear ZI ZB ZO G2 B0 SZ
  have i0 := ZI2.out.1
  have i1 := ZI2.out.2.1
  have i2 := ZI2.out.2.2.1
  have i3 := ZI2.out.2.2.2.1
  have i4 := ZI2.out.2.2.2.2.1
  have i5 := ZI2.out.2.2.2.2.2.1
  have i6 := ZI2.out.2.2.2.2.2.2
  have b0 := ZB2.out.1
  have b1 := ZB2.out.2.1
  have b2 := ZB2.out.2.2.1
  have b3 := ZB2.out.2.2.2.1
  have b4 := ZB2.out.2.2.2.2.1
  have b5 := ZB2.out.2.2.2.2.2.1
  have b6 := ZB2.out.2.2.2.2.2.2
  have o0 := ZO2.out.1
  have o1 := ZO2.out.2.1
  have o2 := ZO2.out.2.2.1
  have o3 := ZO2.out.2.2.2.1
  have o4 := ZO2.out.2.2.2.2.1
  have o5 := ZO2.out.2.2.2.2.2.1
  have o6 := ZO2.out.2.2.2.2.2.2
  simp only [evI, evB, evO] at i0 i1 i2 i3 i4 i5 i6 b0 b1 b2 b3 b4 b5 b6 o0 o1 o2 o3 o4 o5 o6
  go_wp2_with fail
  refine (CO.out w2).mono ?_
  rintro e w3 ⟨a, cap2, rfl, ho, hb⟩
  rcases ho with ⟨_, h, _⟩ | ⟨g2, rfl, hr2, _, hg2, _⟩
  · cases h
  have G3 := Lib.hid (((Below.refl _ w2).alloc (Nat.le_refl _) (.cells #[.int .i64 1, .int .i64 5, .int .i64 1, .int .i64 481, .int .i64 1, .int .i64 0, .int .i64 0, .int .i64 1, .int .i64 5, .int .i64 1, .int .i64 480, .int .i64 1, .int .i64 0, .int .i64 0] 26)).trans (hb.mono (by simp)))
  have Y2 : Hid (SK.At4 w3 ⟨g2, 0, none⟩ ⟨1, 5⟩) := Lib.hid (hr2.cell 0 (by decide))
  have Y1b := Lib.hid (Y1.out.block (G3.out.block _ Y1.out.lt))
  clear hb hr2 CO Y1 i0 i1 i2 i3 i4 i5 i6 b0 b1 b2 b3 b4 b5 b6 o0 o1 o2 o3 o4 o5 o6
  have ZI3 := Lib.hid (ZI2.out.block (G3.out.block _ ZI2.out.lt))
  have ZB3 := Lib.hid (ZB2.out.block (G3.out.block _ ZB2.out.lt))
  have ZO3 := Lib.hid (ZO2.out.block (G3.out.block _ ZO2.out.lt))
  have B3 := Lib.hid (B2.out.trans (G3.out.mono B2.out.size))
  clear ZI2 ZB2 ZO2 G3 B2
  have i0 := ZI3.out.1
  have i1 := ZI3.out.2.1
  have i2 := ZI3.out.2.2.1
  have i3 := ZI3.out.2.2.2.1
  have i4 := ZI3.out.2.2.2.2.1
  have i5 := ZI3.out.2.2.2.2.2.1
  have i6 := ZI3.out.2.2.2.2.2.2
  have b0 := ZB3.out.1
  have b1 := ZB3.out.2.1
  have b2 := ZB3.out.2.2.1
  have b3 := ZB3.out.2.2.2.1
  have b4 := ZB3.out.2.2.2.2.1
  have b5 := ZB3.out.2.2.2.2.2.1
  have b6 := ZB3.out.2.2.2.2.2.2
  simp only [evI, evB] at i0 i1 i2 i3 i4 i5 i6 b0 b1 b2 b3 b4 b5 b6
  have n0 := Lib.cell?_alloc_some (.cells #[.int .i64 2, .int .i64 1, .int .i64 1, .int .i64 475, .int .i64 6, .int .i64 1, .int .i64 5, .int .i64 1, .int .i64 5, .int .i64 1, .int .i64 480, .int .i64 1, .int .i64 0, .int .i64 0] 26) i0
  have n1 := Lib.cell?_alloc_some (.cells #[.int .i64 2, .int .i64 1, .int .i64 1, .int .i64 475, .int .i64 6, .int .i64 1, .int .i64 5, .int .i64 1, .int .i64 5, .int .i64 1, .int .i64 480, .int .i64 1, .int .i64 0, .int .i64 0] 26) i1
  have n2 := Lib.cell?_alloc_some (.cells #[.int .i64 2, .int .i64 1, .int .i64 1, .int .i64 475, .int .i64 6, .int .i64 1, .int .i64 5, .int .i64 1, .int .i64 5, .int .i64 1, .int .i64 480, .int .i64 1, .int .i64 0, .int .i64 0] 26) i2
  have n3 := Lib.cell?_alloc_some (.cells #[.int .i64 2, .int .i64 1, .int .i64 1, .int .i64 475, .int .i64 6, .int .i64 1, .int .i64 5, .int .i64 1, .int .i64 5, .int .i64 1, .int .i64 480, .int .i64 1, .int .i64 0, .int .i64 0] 26) i3
  have n4 := Lib.cell?_alloc_some (.cells #[.int .i64 2, .int .i64 1, .int .i64 1, .int .i64 475, .int .i64 6, .int .i64 1, .int .i64 5, .int .i64 1, .int .i64 5, .int .i64 1, .int .i64 480, .int .i64 1, .int .i64 0, .int .i64 0] 26) i4
  have n5 := Lib.cell?_alloc_some (.cells #[.int .i64 2, .int .i64 1, .int .i64 1, .int .i64 475, .int .i64 6, .int .i64 1, .int .i64 5, .int .i64 1, .int .i64 5, .int .i64 1, .int .i64 480, .int .i64 1, .int .i64 0, .int .i64 0] 26) i5
  have n6 := Lib.cell?_alloc_some (.cells #[.int .i64 2, .int .i64 1, .int .i64 1, .int .i64 475, .int .i64 6, .int .i64 1, .int .i64 5, .int .i64 1, .int .i64 5, .int .i64 1, .int .i64 480, .int .i64 1, .int .i64 0, .int .i64 0] 26) i6
  have MG3 := Lib.hid (MG.out w3)
  rw [show (w3.alloc (.cells #[.int .i64 2, .int .i64 1, .int .i64 1, .int .i64 475, .int .i64 6, .int .i64 1, .int .i64 5, .int .i64 1, .int .i64 5, .int .i64 1, .int .i64 480, .int .i64 1, .int .i64 0, .int .i64 0] 26)).heap.size = w3.heap.size + 1 by simp] at MG3
  clear MG
  go_wp2_with fail
  refine MG3.out.mono ?_
  rintro e w4 ⟨a, cap3, rfl, ho, hb⟩
  rcases ho with ⟨_, h, _⟩ | ⟨g3, rfl, hr3, _, hg3, _⟩
  · cases h
  have G4 := Lib.hid ((((Below.refl _ w3).alloc (Nat.le_refl _) (.cells #[.int .i64 2, .int .i64 1, .int .i64 1, .int .i64 475, .int .i64 6, .int .i64 1, .int .i64 5, .int .i64 1, .int .i64 5, .int .i64 1, .int .i64 480, .int .i64 1, .int .i64 0, .int .i64 0] 26)).alloc (by simp) (.cells #[.int .i64 1, .int .i64 5, .int .i64 1, .int .i64 480, .int .i64 1, .int .i64 0, .int .i64 0] 26)).trans (hb.mono (by simp; omega)))
  have Y3 : Hid (At4 w4 ⟨g3, 0, none⟩ evI) := Lib.hid (hr3.cell 0 (by decide))
  have Y1c := Lib.hid (Y1b.out.block (G4.out.block _ Y1b.out.lt))
  have Y2c := Lib.hid (Y2.out.block (G4.out.block _ Y2.out.lt))
  clear hb hr3 MG3 Y1b Y2 i0 i1 i2 i3 i4 i5 i6 b0 b1 b2 b3 b4 b5 b6 n0 n1 n2 n3 n4 n5 n6
  have ZI4 := Lib.hid (ZI3.out.block (G4.out.block _ ZI3.out.lt))
  have ZO4 := Lib.hid (ZO3.out.block (G4.out.block _ ZO3.out.lt))
  have B4 := Lib.hid (B3.out.trans (G4.out.mono B3.out.size))
  clear ZI3 ZB3 ZO3 G4 B3
  have KI : ∀ P : GrBy w4, At4 P.W ⟨w.heap.size, 0, none⟩ evI := fun P => ZI4.out.block (P.h.below.block _ ZI4.out.lt)
  have KO : ∀ P : GrBy w4, At4 P.W ⟨w.heap.size + 1 + 1 + 1, 0, none⟩ evO := fun P => ZO4.out.block (P.h.below.block _ ZO4.out.lt)
  have K1 : ∀ P : GrBy w4, SS.At4 P.W ⟨g1, 0, none⟩ ⟨475, 1, 1, 5⟩ := fun P => Y1c.out.block (P.h.below.block _ Y1c.out.lt)
  have K2 : ∀ P : GrBy w4, SK.At4 P.W ⟨g2, 0, none⟩ ⟨1, 5⟩ := fun P => Y2c.out.block (P.h.below.block _ Y2c.out.lt)
  have K3 : ∀ P : GrBy w4, At4 P.W ⟨g3, 0, none⟩ evI := fun P => Y3.out.block (P.h.below.block _ Y3.out.lt)
  have i0 := fun P : GrBy w4 => (KI P).1
  have i1 := fun P : GrBy w4 => (KI P).2.1
  have i2 := fun P : GrBy w4 => (KI P).2.2.1
  have i3 := fun P : GrBy w4 => (KI P).2.2.2.1
  have i4 := fun P : GrBy w4 => (KI P).2.2.2.2.1
  have i5 := fun P : GrBy w4 => (KI P).2.2.2.2.2.1
  have i6 := fun P : GrBy w4 => (KI P).2.2.2.2.2.2
  have o0 := fun P : GrBy w4 => (KO P).1
  have o1 := fun P : GrBy w4 => (KO P).2.1
  have o2 := fun P : GrBy w4 => (KO P).2.2.1
  have o3 := fun P : GrBy w4 => (KO P).2.2.2.1
  have o4 := fun P : GrBy w4 => (KO P).2.2.2.2.1
  have o5 := fun P : GrBy w4 => (KO P).2.2.2.2.2.1
  have o6 := fun P : GrBy w4 => (KO P).2.2.2.2.2.2
  have x0 := fun P : GrBy w4 => (K1 P).1
  have x1 := fun P : GrBy w4 => (K1 P).2.1
  have x2 := fun P : GrBy w4 => (K1 P).2.2.1
  have x3 := fun P : GrBy w4 => (K1 P).2.2.2
  have y0 := fun P : GrBy w4 => (K2 P).1
  have y1 := fun P : GrBy w4 => (K2 P).2
  have z0 := fun P : GrBy w4 => (K3 P).1
  have z1 := fun P : GrBy w4 => (K3 P).2.1
  have z2 := fun P : GrBy w4 => (K3 P).2.2.1
  have z3 := fun P : GrBy w4 => (K3 P).2.2.2.1
  have z4 := fun P : GrBy w4 => (K3 P).2.2.2.2.1
  have z5 := fun P : GrBy w4 => (K3 P).2.2.2.2.2.1
  have z6 := fun P : GrBy w4 => (K3 P).2.2.2.2.2.2
  simp only [evI, evO] at i0 i1 i2 i3 i4 i5 i6 o0 o1 o2 o3 o4 o5 o6 z0 z1 z2 z3 z4 z5 z6 x0 x1 x2 x3 y0 y1
  have DM : Hid (∀ P : GrBy w4, Calls Try.prog 34 #[.agg #[.int .i64 1, .int .i64 5, .int .i64 1, .int .i64 480, .int .i64 1, .int .i64 0, .int .i64 0], .agg #[.int .i64 1, .int .i64 5, .int .i64 1, .int .i64 481, .int .i64 1, .int .i64 0, .int .i64 0]] P.W fun r W' => r = .returned (.int .i64 (-1)) ∧ ∃ p2 : GrBy w4, W' = p2.W) := Lib.hid fun P => by
    have := cmpe_any evI evO P.W
    unfold CmpW at this
    rw [cmp_ex] at this
    exact this.mono fun _ W' h => ⟨h.1, ⟨W', P.h.trans h.2⟩, rfl⟩
  have HE1 := fun W => eql_st ⟨475, 1, 1, 5⟩ ⟨475, 1, 1, 5⟩ W
  rw [show eqS ⟨475, 1, 1, 5⟩ ⟨475, 1, 1, 5⟩ = true by decide] at HE1
  have HE2 := fun W => eql_key 1 5 1 5 W
  rw [show eqK2 1 5 1 5 = true by decide] at HE2
  have HE3 := fun W => eql_ev evI evI W
  rw [show eqE evI evI = true by decide] at HE3
  simp only [evI] at HE1 HE3
  have HG1 := fun op a b W => run_eqGuard_agg (P := Try.prog) W op 70 a b #[.int .i64 475, .int .i64 1, .int .i64 1, .int .i64 5] #[.int .i64 475, .int .i64 1, .int .i64 1, .int .i64 5] grd_st
  have HG2 := fun op a b W => run_eqGuard_agg (P := Try.prog) W op 24 a b #[.int .i64 1, .int .i64 5] #[.int .i64 1, .int .i64 5] grd_key
  have HG3 := fun op a b W => run_eqGuard_agg (P := Try.prog) W op 26 a b #[.int .i64 1, .int .i64 5, .int .i64 1, .int .i64 480, .int .i64 1, .int .i64 0, .int .i64 0] #[.int .i64 1, .int .i64 5, .int .i64 1, .int .i64 480, .int .i64 1, .int .i64 0, .int .i64 0] grd_ev
  have mixed : Try.prog.follows Departure.mixedOrders = true := by kernel_rfl
  clear KI KO K1 K2 K3 ZI4 ZO4 Y1c Y2c Y3
  go_wp2_with fail
  refine wp_region_quiet_gr (w0 := w4) mixed (by kernel_rfl) (Gr.refl _) ?_
  repeat (go_big_quiet_step ((go_at_call 34; (with_reducible exact DM.out _))))
  refine wpQuiet_nil ?_
  intro w8 hz8
  obtain ⟨⟨w8', g8⟩, hz9⟩ := hz8
  subst hz9
  have B8 := Lib.hid (B4.out.trans (g8.below.mono B4.out.size))
  clear i0 i1 i2 i3 i4 i5 i6 o0 o1 o2 o3 o4 o5 o6 z0 z1 z2 z3 z4 z5 z6 x0 x1 x2 x3 y0 y1 DM HE1 HE2 HE3 HG1 HG2 HG3 g8 B4
  go_wp2_with fail
  go_ret
  exact ⟨rfl, B8.out⟩
end Go.Proofs.Ytebdldinlodgpaa.Ib
