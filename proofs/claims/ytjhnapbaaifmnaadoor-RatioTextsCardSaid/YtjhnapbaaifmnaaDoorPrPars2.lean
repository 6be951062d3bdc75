/-
  Layer 1 (ratio): the contract of Parse. Conditions: the string takes at most 2^48 bytes; the listed variables read as laid.
-/
import Derived.Test.YtjhnapbaaifmnaaDoorPrPars
import Derived.Test.YtjhnapbaaifmnaaDoorPrAr
namespace Go.Proofs.YtjhnapbaaifmnaaDoor
open Go Go.RowKit Go.Lib

theorem frozen_below {w w' : World} {p : Addr} (h : w.frozen? p = false) (hp : p.block < w.heap.size) (hb : Below w.heap.size w w') : w'.frozen? p = false := (hb.frozen hp).trans h
theorem parsT_none (s : ByteArray) (h : numsOf s = none) : parsT s = (0, 0, false) := by unfold parsT; rw [h]
theorem parsT_yes (s : ByteArray) (n d : Int) (h : numsOf s = some (n, d)) (hf : (fmtL n d == s.toList) = true) : parsT s = (n, d, true) := by unfold parsT; rw [h]; simp only [hf, if_true]
theorem parsT_no (s : ByteArray) (n d : Int) (h : numsOf s = some (n, d)) (hf : (fmtL n d == s.toList) = false) : parsT s = (0, 0, false) := by unfold parsT; rw [h]; simp only [hf]; rfl
theorem numsOf_a (s : ByteArray) (hi : Lib.indexByte s.data.toList 47 = -1) : numsOf s = (numOf s).map fun n => (n, 1) := by unfold numsOf; rw [hi, if_pos (by omega)]
theorem numsOf_b (s : ByteArray) (o : Nat) (hi : Lib.indexByte s.data.toList 47 = (o : Int)) : numsOf s = (numOf (s.extract 0 o)).bind fun n => (numOf (s.extract (o + 1) s.size)).map fun d => (n, d) := by unfold numsOf; rw [hi, if_neg (by omega)]; rfl
theorem ext_size (s : ByteArray) (i j : Nat) (h : s.size ≤ 281474976710656) : (s.extract i j).size ≤ 281474976710656 := by rw [ByteArray.size_extract]; omega

set_option maxRecDepth 100000 in
set_option maxHeartbeats 4000000 in
theorem pars_a (s : ByteArray) (hs : s.size ≤ 281474976710656) (hi : Lib.indexByte s.data.toList 47 = -1) (w : World) (hok : OKW w) :
    Calls Tryd.prog 19 #[.string s] w fun e w' => e = .returned (.tuple #[.agg #[.int .i64 (parsT s).1, .int .i64 (parsT s).2.1], .bool (parsT s).2.2]) ∧ Below w.heap.size w w' := by
  have HI := Lib.hid hi
  have hN := numsOf_a s hi
  clear hi
  cases hn : numOf s with
  | none =>
    have HP := Lib.hid (parsT_none s (by rw [hN, hn]; rfl))
    have HA := Lib.hid hn
    clear hN hn
    go_enter Tryd.func19, Tryd.ntmps19
    go_wp2_with fail
    refine (cut_no s HI _).mono ?_
    rintro e w1 ⟨rfl, hw1⟩
    have hB1 : Below w.heap.size w w1 := (boxed2 _ _ _).trans (hw1.mono (by first | omega | (simp <;> omega)))
    have hz1 : w.heap.size < w1.heap.size := by have := hw1.size; (try simp at this); omega
    have hy1 : w.heap.size + 1 < w1.heap.size := by have := hw1.size; (try simp at this); omega
    have y10 : w1.cell? ⟨w.heap.size, 0, none⟩ = some (.int .i64 0) := cell_below (by go_simp) hw1
    have y11 : w1.cell? ⟨w.heap.size, 1, none⟩ = some (.int .i64 0) := cell_below (by go_simp) hw1
    have y12 : w1.cell? ⟨w.heap.size + 1, 0, none⟩ = some (.int .i64 0) := cell_below (by go_simp) hw1
    have y13 : w1.cell? ⟨w.heap.size + 1, 1, none⟩ = some (.int .i64 1) := cell_below (by go_simp) hw1
    have f10 : w1.frozen? ⟨w.heap.size, 0, none⟩ = false := frozen_below (by go_simp) (by first | omega | (simp <;> omega)) hw1
    have f11 : w1.frozen? ⟨w.heap.size, 1, none⟩ = false := frozen_below (by go_simp) (by first | omega | (simp <;> omega)) hw1
    have f12 : w1.frozen? ⟨w.heap.size + 1, 0, none⟩ = false := frozen_below (by go_simp) (by first | omega | (simp <;> omega)) hw1
    have f13 : w1.frozen? ⟨w.heap.size + 1, 1, none⟩ = false := frozen_below (by go_simp) (by first | omega | (simp <;> omega)) hw1
    go_wp2_with fail
    refine (atoi_no s hs HA _ (hok.below hB1)).mono ?_
    rintro e w2 ⟨x, p, rfl, hw2⟩
    have hB2 : Below w.heap.size w w2 := Below.trans (b := _) (by repeat (first | exact Below.refl _ _ | assumption | refine below_drewN ?_ _ | refine Below.setCell ?_ (by first | omega | (simp <;> omega)) _ | refine Below.alloc ?_ (by first | omega | (simp <;> omega)) _)) (hw2.mono (by first | omega | (simp <;> omega)))
    have hz2 : w.heap.size < w2.heap.size := by have := hw2.size; (try simp at this); omega
    have hy2 : w.heap.size + 1 < w2.heap.size := by have := hw2.size; (try simp at this); omega
    have y20 : w2.cell? ⟨w.heap.size, 0, none⟩ = some (.int .i64 0) := cell_below (by go_simp) hw2
    have y21 : w2.cell? ⟨w.heap.size, 1, none⟩ = some (.int .i64 0) := cell_below (by go_simp) hw2
    have y22 : w2.cell? ⟨w.heap.size + 1, 0, none⟩ = some (.int .i64 0) := cell_below (by go_simp) hw2
    have y23 : w2.cell? ⟨w.heap.size + 1, 1, none⟩ = some (.int .i64 1) := cell_below (by go_simp) hw2
    have f20 : w2.frozen? ⟨w.heap.size, 0, none⟩ = false := frozen_below (by go_simp) (by first | omega | (simp <;> omega)) hw2
    have f21 : w2.frozen? ⟨w.heap.size, 1, none⟩ = false := frozen_below (by go_simp) (by first | omega | (simp <;> omega)) hw2
    have f22 : w2.frozen? ⟨w.heap.size + 1, 0, none⟩ = false := frozen_below (by go_simp) (by first | omega | (simp <;> omega)) hw2
    have f23 : w2.frozen? ⟨w.heap.size + 1, 1, none⟩ = false := frozen_below (by go_simp) (by first | omega | (simp <;> omega)) hw2
    clear y10 f10 y11 f11 y12 f12 y13 f13
    go_wp2_with fail
    refine bodyPost_ret (v := retP (parsT s)) (by rw [HP.out]; simp [results, Tryd.results19, go_sem, y20, y21, retP]) rfl ⟨rfl, ?_⟩
    repeat (first | exact Below.refl _ _ | assumption | refine below_drewN ?_ _ | refine Below.setCell ?_ (by first | omega | (simp <;> omega)) _ | refine Below.alloc ?_ (by first | omega | (simp <;> omega)) _)
  | some n =>
    have hN2 : numsOf s = some (n, 1) := by rw [hN, hn]; rfl
    obtain ⟨b1, b2⟩ := numOf_bd hn
    have HA := Lib.hid hn
    have HN := Lib.hid hN2
    clear hN hn hN2
    cases hf : (fmtL n 1 == s.toList)
    all_goals
      have HP := by first | exact Lib.hid (parsT_yes s n 1 HN.out hf) | exact Lib.hid (parsT_no s n 1 HN.out hf)
      go_enter Tryd.func19, Tryd.ntmps19
      go_wp2_with fail
      refine (cut_no s HI _).mono ?_
      rintro e w1 ⟨rfl, hw1⟩
      have hB1 : Below w.heap.size w w1 := (boxed2 _ _ _).trans (hw1.mono (by first | omega | (simp <;> omega)))
      have hz1 : w.heap.size < w1.heap.size := by have := hw1.size; (try simp at this); omega
      have hy1 : w.heap.size + 1 < w1.heap.size := by have := hw1.size; (try simp at this); omega
      have y10 : w1.cell? ⟨w.heap.size, 0, none⟩ = some (.int .i64 0) := cell_below (by go_simp) hw1
      have y11 : w1.cell? ⟨w.heap.size, 1, none⟩ = some (.int .i64 0) := cell_below (by go_simp) hw1
      have y12 : w1.cell? ⟨w.heap.size + 1, 0, none⟩ = some (.int .i64 0) := cell_below (by go_simp) hw1
      have y13 : w1.cell? ⟨w.heap.size + 1, 1, none⟩ = some (.int .i64 1) := cell_below (by go_simp) hw1
      have f10 : w1.frozen? ⟨w.heap.size, 0, none⟩ = false := frozen_below (by go_simp) (by first | omega | (simp <;> omega)) hw1
      have f11 : w1.frozen? ⟨w.heap.size, 1, none⟩ = false := frozen_below (by go_simp) (by first | omega | (simp <;> omega)) hw1
      have f12 : w1.frozen? ⟨w.heap.size + 1, 0, none⟩ = false := frozen_below (by go_simp) (by first | omega | (simp <;> omega)) hw1
      have f13 : w1.frozen? ⟨w.heap.size + 1, 1, none⟩ = false := frozen_below (by go_simp) (by first | omega | (simp <;> omega)) hw1
      go_wp2_with fail
      refine (atoi_yes s n hs HA _).mono ?_
      rintro e w2 ⟨rfl, hw2⟩
      have hB2 : Below w.heap.size w w2 := Below.trans (b := _) (by repeat (first | exact Below.refl _ _ | assumption | refine below_drewN ?_ _ | refine Below.setCell ?_ (by first | omega | (simp <;> omega)) _ | refine Below.alloc ?_ (by first | omega | (simp <;> omega)) _)) (hw2.mono (by first | omega | (simp <;> omega)))
      have hz2 : w.heap.size < w2.heap.size := by have := hw2.size; (try simp at this); omega
      have hy2 : w.heap.size + 1 < w2.heap.size := by have := hw2.size; (try simp at this); omega
      have y20 : w2.cell? ⟨w.heap.size, 0, none⟩ = some (.int .i64 0) := cell_below (by go_simp) hw2
      have y21 : w2.cell? ⟨w.heap.size, 1, none⟩ = some (.int .i64 0) := cell_below (by go_simp) hw2
      have y22 : w2.cell? ⟨w.heap.size + 1, 0, none⟩ = some (.int .i64 0) := cell_below (by go_simp) hw2
      have y23 : w2.cell? ⟨w.heap.size + 1, 1, none⟩ = some (.int .i64 1) := cell_below (by go_simp) hw2
      have f20 : w2.frozen? ⟨w.heap.size, 0, none⟩ = false := frozen_below (by go_simp) (by first | omega | (simp <;> omega)) hw2
      have f21 : w2.frozen? ⟨w.heap.size, 1, none⟩ = false := frozen_below (by go_simp) (by first | omega | (simp <;> omega)) hw2
      have f22 : w2.frozen? ⟨w.heap.size + 1, 0, none⟩ = false := frozen_below (by go_simp) (by first | omega | (simp <;> omega)) hw2
      have f23 : w2.frozen? ⟨w.heap.size + 1, 1, none⟩ = false := frozen_below (by go_simp) (by first | omega | (simp <;> omega)) hw2
      clear y10 f10 y11 f11 y12 f12 y13 f13
      go_wp2_with fail
      refine (fmt_any n 1 b1 b2 (by omega) (by omega) _ (hok.below (by repeat (first | exact Below.refl _ _ | assumption | refine below_drewN ?_ _ | refine Below.setCell ?_ (by first | omega | (simp <;> omega)) _ | refine Below.alloc ?_ (by first | omega | (simp <;> omega)) _)))).mono ?_
      rintro e w3 ⟨rfl, hw3⟩
      have hB3 : Below w.heap.size w w3 := Below.trans (b := _) (by repeat (first | exact Below.refl _ _ | assumption | refine below_drewN ?_ _ | refine Below.setCell ?_ (by first | omega | (simp <;> omega)) _ | refine Below.alloc ?_ (by first | omega | (simp <;> omega)) _)) (hw3.mono (by first | omega | (simp <;> omega)))
      have hz3 : w.heap.size < w3.heap.size := by have := hw3.size; (try simp at this); omega
      have hy3 : w.heap.size + 1 < w3.heap.size := by have := hw3.size; (try simp at this); omega
      have y30 : w3.cell? ⟨w.heap.size, 0, none⟩ = some (.int .i64 0) := cell_below (by go_simp) hw3
      have y31 : w3.cell? ⟨w.heap.size, 1, none⟩ = some (.int .i64 0) := cell_below (by go_simp) hw3
      have y32 : w3.cell? ⟨w.heap.size + 1, 0, none⟩ = some (.int .i64 n) := cell_below (by go_simp) hw3
      have y33 : w3.cell? ⟨w.heap.size + 1, 1, none⟩ = some (.int .i64 1) := cell_below (by go_simp) hw3
      have f30 : w3.frozen? ⟨w.heap.size, 0, none⟩ = false := frozen_below (by go_simp) (by first | omega | (simp <;> omega)) hw3
      have f31 : w3.frozen? ⟨w.heap.size, 1, none⟩ = false := frozen_below (by go_simp) (by first | omega | (simp <;> omega)) hw3
      have f32 : w3.frozen? ⟨w.heap.size + 1, 0, none⟩ = false := frozen_below (by go_simp) (by first | omega | (simp <;> omega)) hw3
      have f33 : w3.frozen? ⟨w.heap.size + 1, 1, none⟩ = false := frozen_below (by go_simp) (by first | omega | (simp <;> omega)) hw3
      clear y20 f20 y21 f21 y22 f22 y23 f23
      go_wp2_with fail
      refine bodyPost_ret (v := retP (parsT s)) (by rw [HP.out]; simp [results, Tryd.results19, go_sem, y30, y31, retP]) rfl ⟨rfl, ?_⟩
      repeat (first | exact Below.refl _ _ | assumption | refine below_drewN ?_ _ | refine Below.setCell ?_ (by first | omega | (simp <;> omega)) _ | refine Below.alloc ?_ (by first | omega | (simp <;> omega)) _)

set_option maxRecDepth 100000 in
set_option maxHeartbeats 4000000 in
theorem pars_b (s : ByteArray) (hs : s.size ≤ 281474976710656) (o : Nat) (ho : o < s.size) (hi : Lib.indexByte s.data.toList 47 = (o : Int)) (w : World) (hok : OKW w) :
    Calls Tryd.prog 19 #[.string s] w fun e w' => e = .returned (.tuple #[.agg #[.int .i64 (parsT s).1, .int .i64 (parsT s).2.1], .bool (parsT s).2.2]) ∧ Below w.heap.size w w' := by
  have HI := Lib.hid hi
  have hN := numsOf_b s o hi
  have hs2 : s.size ≤ 9223372036854775807 := by omega
  have e1 := ext_size s 0 o hs
  have e2 := ext_size s (o + 1) s.size hs
  clear hi
  cases hn : numOf (s.extract 0 o) with
  | none =>
    have HP := Lib.hid (parsT_none s (by rw [hN, hn]; rfl))
    have HA := Lib.hid hn
    clear hN hn
    go_enter Tryd.func19, Tryd.ntmps19
    go_wp2_with fail
    refine (cut_yes s o ho hs2 HI _).mono ?_
    rintro e w1 ⟨rfl, hw1⟩
    have hB1 : Below w.heap.size w w1 := (boxed2 _ _ _).trans (hw1.mono (by first | omega | (simp <;> omega)))
    have hz1 : w.heap.size < w1.heap.size := by have := hw1.size; (try simp at this); omega
    have hy1 : w.heap.size + 1 < w1.heap.size := by have := hw1.size; (try simp at this); omega
    have y10 : w1.cell? ⟨w.heap.size, 0, none⟩ = some (.int .i64 0) := cell_below (by go_simp) hw1
    have y11 : w1.cell? ⟨w.heap.size, 1, none⟩ = some (.int .i64 0) := cell_below (by go_simp) hw1
    have y12 : w1.cell? ⟨w.heap.size + 1, 0, none⟩ = some (.int .i64 0) := cell_below (by go_simp) hw1
    have y13 : w1.cell? ⟨w.heap.size + 1, 1, none⟩ = some (.int .i64 1) := cell_below (by go_simp) hw1
    have f10 : w1.frozen? ⟨w.heap.size, 0, none⟩ = false := frozen_below (by go_simp) (by first | omega | (simp <;> omega)) hw1
    have f11 : w1.frozen? ⟨w.heap.size, 1, none⟩ = false := frozen_below (by go_simp) (by first | omega | (simp <;> omega)) hw1
    have f12 : w1.frozen? ⟨w.heap.size + 1, 0, none⟩ = false := frozen_below (by go_simp) (by first | omega | (simp <;> omega)) hw1
    have f13 : w1.frozen? ⟨w.heap.size + 1, 1, none⟩ = false := frozen_below (by go_simp) (by first | omega | (simp <;> omega)) hw1
    go_wp2_with fail
    refine (atoi_no _ e1 HA _ (hok.below hB1)).mono ?_
    rintro e w2 ⟨x, p, rfl, hw2⟩
    have hB2 : Below w.heap.size w w2 := Below.trans (b := _) (by repeat (first | exact Below.refl _ _ | assumption | refine below_drewN ?_ _ | refine Below.setCell ?_ (by first | omega | (simp <;> omega)) _ | refine Below.alloc ?_ (by first | omega | (simp <;> omega)) _)) (hw2.mono (by first | omega | (simp <;> omega)))
    have hz2 : w.heap.size < w2.heap.size := by have := hw2.size; (try simp at this); omega
    have hy2 : w.heap.size + 1 < w2.heap.size := by have := hw2.size; (try simp at this); omega
    have y20 : w2.cell? ⟨w.heap.size, 0, none⟩ = some (.int .i64 0) := cell_below (by go_simp) hw2
    have y21 : w2.cell? ⟨w.heap.size, 1, none⟩ = some (.int .i64 0) := cell_below (by go_simp) hw2
    have y22 : w2.cell? ⟨w.heap.size + 1, 0, none⟩ = some (.int .i64 0) := cell_below (by go_simp) hw2
    have y23 : w2.cell? ⟨w.heap.size + 1, 1, none⟩ = some (.int .i64 1) := cell_below (by go_simp) hw2
    have f20 : w2.frozen? ⟨w.heap.size, 0, none⟩ = false := frozen_below (by go_simp) (by first | omega | (simp <;> omega)) hw2
    have f21 : w2.frozen? ⟨w.heap.size, 1, none⟩ = false := frozen_below (by go_simp) (by first | omega | (simp <;> omega)) hw2
    have f22 : w2.frozen? ⟨w.heap.size + 1, 0, none⟩ = false := frozen_below (by go_simp) (by first | omega | (simp <;> omega)) hw2
    have f23 : w2.frozen? ⟨w.heap.size + 1, 1, none⟩ = false := frozen_below (by go_simp) (by first | omega | (simp <;> omega)) hw2
    clear y10 f10 y11 f11 y12 f12 y13 f13
    go_wp2_with fail
    refine bodyPost_ret (v := retP (parsT s)) (by rw [HP.out]; simp [results, Tryd.results19, go_sem, y20, y21, retP]) rfl ⟨rfl, ?_⟩
    repeat (first | exact Below.refl _ _ | assumption | refine below_drewN ?_ _ | refine Below.setCell ?_ (by first | omega | (simp <;> omega)) _ | refine Below.alloc ?_ (by first | omega | (simp <;> omega)) _)
  | some n =>
    cases hd : numOf (s.extract (o + 1) s.size) with
    | none =>
      have HP := Lib.hid (parsT_none s (by rw [hN, hn, hd]; rfl))
      have HA := Lib.hid hn
      have HD := Lib.hid hd
      clear hN hn hd
      go_enter Tryd.func19, Tryd.ntmps19
      go_wp2_with fail
      refine (cut_yes s o ho hs2 HI _).mono ?_
      rintro e w1 ⟨rfl, hw1⟩
      have hB1 : Below w.heap.size w w1 := (boxed2 _ _ _).trans (hw1.mono (by first | omega | (simp <;> omega)))
      have hz1 : w.heap.size < w1.heap.size := by have := hw1.size; (try simp at this); omega
      have hy1 : w.heap.size + 1 < w1.heap.size := by have := hw1.size; (try simp at this); omega
      have y10 : w1.cell? ⟨w.heap.size, 0, none⟩ = some (.int .i64 0) := cell_below (by go_simp) hw1
      have y11 : w1.cell? ⟨w.heap.size, 1, none⟩ = some (.int .i64 0) := cell_below (by go_simp) hw1
      have y12 : w1.cell? ⟨w.heap.size + 1, 0, none⟩ = some (.int .i64 0) := cell_below (by go_simp) hw1
      have y13 : w1.cell? ⟨w.heap.size + 1, 1, none⟩ = some (.int .i64 1) := cell_below (by go_simp) hw1
      have f10 : w1.frozen? ⟨w.heap.size, 0, none⟩ = false := frozen_below (by go_simp) (by first | omega | (simp <;> omega)) hw1
      have f11 : w1.frozen? ⟨w.heap.size, 1, none⟩ = false := frozen_below (by go_simp) (by first | omega | (simp <;> omega)) hw1
      have f12 : w1.frozen? ⟨w.heap.size + 1, 0, none⟩ = false := frozen_below (by go_simp) (by first | omega | (simp <;> omega)) hw1
      have f13 : w1.frozen? ⟨w.heap.size + 1, 1, none⟩ = false := frozen_below (by go_simp) (by first | omega | (simp <;> omega)) hw1
      go_wp2_with fail
      refine (atoi_yes _ n e1 HA _).mono ?_
      rintro e w2 ⟨rfl, hw2⟩
      have hB2 : Below w.heap.size w w2 := Below.trans (b := _) (by repeat (first | exact Below.refl _ _ | assumption | refine below_drewN ?_ _ | refine Below.setCell ?_ (by first | omega | (simp <;> omega)) _ | refine Below.alloc ?_ (by first | omega | (simp <;> omega)) _)) (hw2.mono (by first | omega | (simp <;> omega)))
      have hz2 : w.heap.size < w2.heap.size := by have := hw2.size; (try simp at this); omega
      have hy2 : w.heap.size + 1 < w2.heap.size := by have := hw2.size; (try simp at this); omega
      have y20 : w2.cell? ⟨w.heap.size, 0, none⟩ = some (.int .i64 0) := cell_below (by go_simp) hw2
      have y21 : w2.cell? ⟨w.heap.size, 1, none⟩ = some (.int .i64 0) := cell_below (by go_simp) hw2
      have y22 : w2.cell? ⟨w.heap.size + 1, 0, none⟩ = some (.int .i64 0) := cell_below (by go_simp) hw2
      have y23 : w2.cell? ⟨w.heap.size + 1, 1, none⟩ = some (.int .i64 1) := cell_below (by go_simp) hw2
      have f20 : w2.frozen? ⟨w.heap.size, 0, none⟩ = false := frozen_below (by go_simp) (by first | omega | (simp <;> omega)) hw2
      have f21 : w2.frozen? ⟨w.heap.size, 1, none⟩ = false := frozen_below (by go_simp) (by first | omega | (simp <;> omega)) hw2
      have f22 : w2.frozen? ⟨w.heap.size + 1, 0, none⟩ = false := frozen_below (by go_simp) (by first | omega | (simp <;> omega)) hw2
      have f23 : w2.frozen? ⟨w.heap.size + 1, 1, none⟩ = false := frozen_below (by go_simp) (by first | omega | (simp <;> omega)) hw2
      clear y10 f10 y11 f11 y12 f12 y13 f13
      go_wp2_with fail
      refine (atoi_no _ e2 HD _ (hok.below (by repeat (first | exact Below.refl _ _ | assumption | refine below_drewN ?_ _ | refine Below.setCell ?_ (by first | omega | (simp <;> omega)) _ | refine Below.alloc ?_ (by first | omega | (simp <;> omega)) _)))).mono ?_
      rintro e w3 ⟨x, p, rfl, hw3⟩
      have hB3 : Below w.heap.size w w3 := Below.trans (b := _) (by repeat (first | exact Below.refl _ _ | assumption | refine below_drewN ?_ _ | refine Below.setCell ?_ (by first | omega | (simp <;> omega)) _ | refine Below.alloc ?_ (by first | omega | (simp <;> omega)) _)) (hw3.mono (by first | omega | (simp <;> omega)))
      have hz3 : w.heap.size < w3.heap.size := by have := hw3.size; (try simp at this); omega
      have hy3 : w.heap.size + 1 < w3.heap.size := by have := hw3.size; (try simp at this); omega
      have y30 : w3.cell? ⟨w.heap.size, 0, none⟩ = some (.int .i64 0) := cell_below (by go_simp) hw3
      have y31 : w3.cell? ⟨w.heap.size, 1, none⟩ = some (.int .i64 0) := cell_below (by go_simp) hw3
      have y32 : w3.cell? ⟨w.heap.size + 1, 0, none⟩ = some (.int .i64 n) := cell_below (by go_simp) hw3
      have y33 : w3.cell? ⟨w.heap.size + 1, 1, none⟩ = some (.int .i64 1) := cell_below (by go_simp) hw3
      have f30 : w3.frozen? ⟨w.heap.size, 0, none⟩ = false := frozen_below (by go_simp) (by first | omega | (simp <;> omega)) hw3
      have f31 : w3.frozen? ⟨w.heap.size, 1, none⟩ = false := frozen_below (by go_simp) (by first | omega | (simp <;> omega)) hw3
      have f32 : w3.frozen? ⟨w.heap.size + 1, 0, none⟩ = false := frozen_below (by go_simp) (by first | omega | (simp <;> omega)) hw3
      have f33 : w3.frozen? ⟨w.heap.size + 1, 1, none⟩ = false := frozen_below (by go_simp) (by first | omega | (simp <;> omega)) hw3
      clear y20 f20 y21 f21 y22 f22 y23 f23
      go_wp2_with fail
      refine bodyPost_ret (v := retP (parsT s)) (by rw [HP.out]; simp [results, Tryd.results19, go_sem, y30, y31, retP]) rfl ⟨rfl, ?_⟩
      repeat (first | exact Below.refl _ _ | assumption | refine below_drewN ?_ _ | refine Below.setCell ?_ (by first | omega | (simp <;> omega)) _ | refine Below.alloc ?_ (by first | omega | (simp <;> omega)) _)
    | some d =>
      have hN2 : numsOf s = some (n, d) := by rw [hN, hn, hd]; rfl
      obtain ⟨b1, b2⟩ := numOf_bd hn
      obtain ⟨b3, b4⟩ := numOf_bd hd
      have HA := Lib.hid hn
      have HD := Lib.hid hd
      have HN := Lib.hid hN2
      clear hN hn hd hN2
      cases hf : (fmtL n d == s.toList)
      all_goals
        have HP := by first | exact Lib.hid (parsT_yes s n d HN.out hf) | exact Lib.hid (parsT_no s n d HN.out hf)
        go_enter Tryd.func19, Tryd.ntmps19
        go_wp2_with fail
        refine (cut_yes s o ho hs2 HI _).mono ?_
        rintro e w1 ⟨rfl, hw1⟩
        have hB1 : Below w.heap.size w w1 := (boxed2 _ _ _).trans (hw1.mono (by first | omega | (simp <;> omega)))
        have hz1 : w.heap.size < w1.heap.size := by have := hw1.size; (try simp at this); omega
        have hy1 : w.heap.size + 1 < w1.heap.size := by have := hw1.size; (try simp at this); omega
        have y10 : w1.cell? ⟨w.heap.size, 0, none⟩ = some (.int .i64 0) := cell_below (by go_simp) hw1
        have y11 : w1.cell? ⟨w.heap.size, 1, none⟩ = some (.int .i64 0) := cell_below (by go_simp) hw1
        have y12 : w1.cell? ⟨w.heap.size + 1, 0, none⟩ = some (.int .i64 0) := cell_below (by go_simp) hw1
        have y13 : w1.cell? ⟨w.heap.size + 1, 1, none⟩ = some (.int .i64 1) := cell_below (by go_simp) hw1
        have f10 : w1.frozen? ⟨w.heap.size, 0, none⟩ = false := frozen_below (by go_simp) (by first | omega | (simp <;> omega)) hw1
        have f11 : w1.frozen? ⟨w.heap.size, 1, none⟩ = false := frozen_below (by go_simp) (by first | omega | (simp <;> omega)) hw1
        have f12 : w1.frozen? ⟨w.heap.size + 1, 0, none⟩ = false := frozen_below (by go_simp) (by first | omega | (simp <;> omega)) hw1
        have f13 : w1.frozen? ⟨w.heap.size + 1, 1, none⟩ = false := frozen_below (by go_simp) (by first | omega | (simp <;> omega)) hw1
        go_wp2_with fail
        refine (atoi_yes _ n e1 HA _).mono ?_
        rintro e w2 ⟨rfl, hw2⟩
        have hB2 : Below w.heap.size w w2 := Below.trans (b := _) (by repeat (first | exact Below.refl _ _ | assumption | refine below_drewN ?_ _ | refine Below.setCell ?_ (by first | omega | (simp <;> omega)) _ | refine Below.alloc ?_ (by first | omega | (simp <;> omega)) _)) (hw2.mono (by first | omega | (simp <;> omega)))
        have hz2 : w.heap.size < w2.heap.size := by have := hw2.size; (try simp at this); omega
        have hy2 : w.heap.size + 1 < w2.heap.size := by have := hw2.size; (try simp at this); omega
        have y20 : w2.cell? ⟨w.heap.size, 0, none⟩ = some (.int .i64 0) := cell_below (by go_simp) hw2
        have y21 : w2.cell? ⟨w.heap.size, 1, none⟩ = some (.int .i64 0) := cell_below (by go_simp) hw2
        have y22 : w2.cell? ⟨w.heap.size + 1, 0, none⟩ = some (.int .i64 0) := cell_below (by go_simp) hw2
        have y23 : w2.cell? ⟨w.heap.size + 1, 1, none⟩ = some (.int .i64 1) := cell_below (by go_simp) hw2
        have f20 : w2.frozen? ⟨w.heap.size, 0, none⟩ = false := frozen_below (by go_simp) (by first | omega | (simp <;> omega)) hw2
        have f21 : w2.frozen? ⟨w.heap.size, 1, none⟩ = false := frozen_below (by go_simp) (by first | omega | (simp <;> omega)) hw2
        have f22 : w2.frozen? ⟨w.heap.size + 1, 0, none⟩ = false := frozen_below (by go_simp) (by first | omega | (simp <;> omega)) hw2
        have f23 : w2.frozen? ⟨w.heap.size + 1, 1, none⟩ = false := frozen_below (by go_simp) (by first | omega | (simp <;> omega)) hw2
        clear y10 f10 y11 f11 y12 f12 y13 f13
        go_wp2_with fail
        refine (atoi_yes _ d e2 HD _).mono ?_
        rintro e w3 ⟨rfl, hw3⟩
        have hB3 : Below w.heap.size w w3 := Below.trans (b := _) (by repeat (first | exact Below.refl _ _ | assumption | refine below_drewN ?_ _ | refine Below.setCell ?_ (by first | omega | (simp <;> omega)) _ | refine Below.alloc ?_ (by first | omega | (simp <;> omega)) _)) (hw3.mono (by first | omega | (simp <;> omega)))
        have hz3 : w.heap.size < w3.heap.size := by have := hw3.size; (try simp at this); omega
        have hy3 : w.heap.size + 1 < w3.heap.size := by have := hw3.size; (try simp at this); omega
        have y30 : w3.cell? ⟨w.heap.size, 0, none⟩ = some (.int .i64 0) := cell_below (by go_simp) hw3
        have y31 : w3.cell? ⟨w.heap.size, 1, none⟩ = some (.int .i64 0) := cell_below (by go_simp) hw3
        have y32 : w3.cell? ⟨w.heap.size + 1, 0, none⟩ = some (.int .i64 n) := cell_below (by go_simp) hw3
        have y33 : w3.cell? ⟨w.heap.size + 1, 1, none⟩ = some (.int .i64 1) := cell_below (by go_simp) hw3
        have f30 : w3.frozen? ⟨w.heap.size, 0, none⟩ = false := frozen_below (by go_simp) (by first | omega | (simp <;> omega)) hw3
        have f31 : w3.frozen? ⟨w.heap.size, 1, none⟩ = false := frozen_below (by go_simp) (by first | omega | (simp <;> omega)) hw3
        have f32 : w3.frozen? ⟨w.heap.size + 1, 0, none⟩ = false := frozen_below (by go_simp) (by first | omega | (simp <;> omega)) hw3
        have f33 : w3.frozen? ⟨w.heap.size + 1, 1, none⟩ = false := frozen_below (by go_simp) (by first | omega | (simp <;> omega)) hw3
        clear y20 f20 y21 f21 y22 f22 y23 f23
        go_wp2_with fail
        refine (fmt_any n d b1 b2 b3 b4 _ (hok.below (by repeat (first | exact Below.refl _ _ | assumption | refine below_drewN ?_ _ | refine Below.setCell ?_ (by first | omega | (simp <;> omega)) _ | refine Below.alloc ?_ (by first | omega | (simp <;> omega)) _)))).mono ?_
        rintro e w4 ⟨rfl, hw4⟩
        have hB4 : Below w.heap.size w w4 := Below.trans (b := _) (by repeat (first | exact Below.refl _ _ | assumption | refine below_drewN ?_ _ | refine Below.setCell ?_ (by first | omega | (simp <;> omega)) _ | refine Below.alloc ?_ (by first | omega | (simp <;> omega)) _)) (hw4.mono (by first | omega | (simp <;> omega)))
        have hz4 : w.heap.size < w4.heap.size := by have := hw4.size; (try simp at this); omega
        have hy4 : w.heap.size + 1 < w4.heap.size := by have := hw4.size; (try simp at this); omega
        have y40 : w4.cell? ⟨w.heap.size, 0, none⟩ = some (.int .i64 0) := cell_below (by go_simp) hw4
        have y41 : w4.cell? ⟨w.heap.size, 1, none⟩ = some (.int .i64 0) := cell_below (by go_simp) hw4
        have y42 : w4.cell? ⟨w.heap.size + 1, 0, none⟩ = some (.int .i64 n) := cell_below (by go_simp) hw4
        have y43 : w4.cell? ⟨w.heap.size + 1, 1, none⟩ = some (.int .i64 d) := cell_below (by go_simp) hw4
        have f40 : w4.frozen? ⟨w.heap.size, 0, none⟩ = false := frozen_below (by go_simp) (by first | omega | (simp <;> omega)) hw4
        have f41 : w4.frozen? ⟨w.heap.size, 1, none⟩ = false := frozen_below (by go_simp) (by first | omega | (simp <;> omega)) hw4
        have f42 : w4.frozen? ⟨w.heap.size + 1, 0, none⟩ = false := frozen_below (by go_simp) (by first | omega | (simp <;> omega)) hw4
        have f43 : w4.frozen? ⟨w.heap.size + 1, 1, none⟩ = false := frozen_below (by go_simp) (by first | omega | (simp <;> omega)) hw4
        clear y30 f30 y31 f31 y32 f32 y33 f33
        go_wp2_with fail
        refine bodyPost_ret (v := retP (parsT s)) (by rw [HP.out]; simp [results, Tryd.results19, go_sem, y40, y41, retP]) rfl ⟨rfl, ?_⟩
        repeat (first | exact Below.refl _ _ | assumption | refine below_drewN ?_ _ | refine Below.setCell ?_ (by first | omega | (simp <;> omega)) _ | refine Below.alloc ?_ (by first | omega | (simp <;> omega)) _)

theorem pars_any (s : ByteArray) (hs : s.size ≤ 281474976710656) (w : World) (hok : OKW w) :
    Calls Tryd.prog 19 #[.string s] w fun e w' => e = .returned (.tuple #[.agg #[.int .i64 (parsT s).1, .int .i64 (parsT s).2.1], .bool (parsT s).2.2]) ∧ Below w.heap.size w w' := by
  rcases idx_cases s.data.toList 47 with h | ⟨o, h, ho⟩
  · exact pars_a s hs h w hok
  · exact pars_b s hs o (by simpa using ho) h w hok
end Go.Proofs.YtjhnapbaaifmnaaDoor
