/-
  ClockLengths returns true: in a zone without changes each day but the first and the last one has 1440 minutes, and a change makes the days around it longer or shorter by its size. Condition: the tape's cells hold ints; the number fits its kind.
-/
import Derived.Test.YtbbfkpkibakieaaPrZs
namespace Go.Proofs.Ytbbfkpkibakieaa
open Go Go.RowKit Go.Lib Go.Proofs.Ytbbfkpkibakieaa.Tp

theorem spL_one (o o2 at_ : Int) (h : 0 < at_) : spL o [(at_, o2)] = [(at_, END, o2), (0, at_, o)] := by
  have e : spL o [(at_, o2)] = (at_, END, o2) :: lastP at_ o := rfl
  rw [e]; unfold lastP; rw [if_pos h]
theorem spL_none (o : Int) : spL o [] = [(0, END, o)] := by
  have e : spL o [] = lastP END o := rfl
  rw [e]; unfold lastP; rw [if_pos (by unfold END; omega)]
theorem vE_one {o o2 at_ : Int} (h : 0 < at_) (h1 : at_ ≤ 120968639) (a : -840 ≤ o) (b : o ≤ 840) (c : -840 ≤ o2) (d : o2 ≤ 840) : vE o [(at_, o2)] = 0 := by
  unfold vE; rw [if_neg (by simp), if_neg (by omega)]
  exact asc_vL _ _ ⟨by omega, by omega, by omega, by omega, by omega, trivial⟩
theorem vE_none {o : Int} (a : -840 ≤ o) (b : o ≤ 840) : vE o [] = 0 := by
  unfold vE; rw [if_neg (by simp), if_neg (by omega)]; rfl
theorem bE_ok {o d : Int} {cs : List (Int × Int)} (h : vE o cs = 0) (d0 : 0 ≤ d) (d1 : d ≤ 84006) : bE o cs d = 0 := by
  unfold bE; rw [if_pos h, if_neg (by omega)]
theorem bV_in {o d : Int} {cs : List (Int × Int)} (h : vE o cs = 0) (d0 : 0 < d) (d1 : d ≤ 84005) : bV o cs d = fV (d * 1440) (spL o cs) := by
  have e : nearT (d * 1440) = d * 1440 := by unfold nearT; rw [if_neg (by omega), if_neg (by omega)]
  unfold bV; rw [if_pos (bE_ok h (by omega) (by omega)), if_neg (by omega), if_neg (by omega), e]
theorem len_none {o d : Int} (a : -840 ≤ o) (b : o ≤ 840) (d0 : 0 < d) (d1 : d ≤ 84004) : bV o [] d = d * 1440 - o := by
  rw [bV_in (vE_none a b) d0 (by omega), spL_none]
  show stF (d * 1440) END (0, END, o) = _
  unfold stF END; dsimp only; rw [if_pos (by omega), if_pos (by omega)]
theorem len_a {o o2 at_ : Int} (a : -840 ≤ o) (b : o ≤ 840) (c : -840 ≤ o2) (e : o2 ≤ 840) (h : 29453760 ≤ at_) (h1 : at_ ≤ 29458079) : bV o [(at_, o2)] 20452 = 29450880 - o := by
  rw [bV_in (vE_one (by omega) (by omega) a b c e) (by omega) (by omega), spL_one _ _ _ (by omega)]
  show stF (20452 * 1440) (stF (20452 * 1440) END (at_, END, o2)) (0, at_, o) = _
  generalize stF (20452 * 1440) END (at_, END, o2) = f
  unfold stF; dsimp only; rw [if_pos (by omega), if_pos (by omega)]; omega
theorem len_b {o o2 at_ : Int} (a : -840 ≤ o) (b : o ≤ 840) (c : -840 ≤ o2) (e : o2 ≤ 840) (h : 29453760 ≤ at_) (h1 : at_ ≤ 29458079) : bV o [(at_, o2)] 20460 = 29462400 - o2 := by
  rw [bV_in (vE_one (by omega) (by omega) a b c e) (by omega) (by omega), spL_one _ _ _ (by omega)]
  show stF (20460 * 1440) (stF (20460 * 1440) END (at_, END, o2)) (0, at_, o) = _
  have f : stF (20460 * 1440) END (at_, END, o2) = 29462400 - o2 := by unfold stF END; dsimp only; rw [if_pos (by omega), if_pos (by omega)]; omega
  rw [f]; unfold stF; dsimp only; rw [if_pos (by omega), if_neg (by omega)]
theorem four (w : World) (x0 x1 x2 x3 : Int) (t : TypeId) : ∀ i, i < ([x0, x1, x2, x3] : List Int).length → (w.alloc (.cells #[.int .i64 x0, .int .i64 x1, .int .i64 x2, .int .i64 x3] t)).cell? ⟨w.heap.size, i, none⟩ = some (.int .i64 (([x0, x1, x2, x3] : List Int).getD i 0)) := by
  intro i hi
  rcases i with _ | _ | _ | _ | i
  · go_simp
  · go_simp
  · go_simp
  · go_simp
  · simp at hi; omega
/-- A zone's box, as a block, and what stays of it. -/
theorem ZBox.only {w w' : World} {b zb : Nat} {off : Int} {a : Option Addr} {n cap : Nat} (h : ZBox w zb off a n cap) (hO : Only b w w') (hb : b ≠ zb) : ZBox w' zb off a n cap := (hO.block zb h.lt (fun e => hb e.symm)).trans h
theorem ZBox.below {w w' : World} {zb : Nat} {off : Int} {a : Option Addr} {n cap : Nat} (h : ZBox w zb off a n cap) (hb : Below w.heap.size w w') : ZBox w' zb off a n cap := (hb.block zb h.lt).trans h
theorem ZBox.alloc {w : World} {zb : Nat} {off : Int} {a : Option Addr} {n cap : Nat} (h : ZBox w zb off a n cap) (o : Obj) : ZBox (w.alloc o) zb off a n cap := (Below.heap_alloc w o zb h.lt).trans h
theorem ZBox.f1 {w : World} {zb : Nat} {off : Int} {a : Option Addr} {n cap : Nat} (h : ZBox w zb off a n cap) : w.frozen? ⟨zb, 1, none⟩ = false := by simp [World.frozen?, show w.heap[zb]? = _ from h]

set_option maxRecDepth 100000 in
set_option maxHeartbeats 4000000 in
theorem len_walk (a : Option Addr) (len cap : Nat) (zs : List Int) (n : Int) (n0 : -9223372036854775808 ≤ n) (n1 : n ≤ 9223372036854775807) (w : World) (hrow : IsRow w a len cap zs) (hl : len ≤ 9223372036854775807) :
    Calls Try.prog 8 #[.slice a len cap, .int .i64 n] w (RetB true w) := by
  have T0 := tape_new hrow hl 50
  have O0 := (Only.refl w.heap.size w).alloc (.cells #[.slice a len cap, .int .i64 0] 50)
  have hs0 : w.heap.size < (w.alloc (.cells #[.slice a len cap, .int .i64 0] 50)).heap.size := by simp
  go_enter Try.func8, Try.ntmps8
  go_wp2_with fail
  refine (gnew_any _ _ _ _).mono ?_
  rintro e w1 ⟨rfl, hw1⟩
  rw [← hw1] at T0 O0 hs0
  clear hw1
  go_wp2_with fail
  refine (pick_any w.heap.size w1.heap.size [60, -60, 30, 0] (by simp) (by simp) (by omega) _ (T0.alloc _) (four w1 60 (-60) 30 0 3)).mono ?_
  rintro e w2 ⟨by_, rfl, m2, T2, O2⟩
  have O02 := (O0.alloc _).trans O2
  have hs2 : w.heap.size < w2.heap.size := T2.lt
  clear T0 O0 O2
  go_wp2_with fail
  refine (pick_any w.heap.size w2.heap.size [0, 60, -300, 570] (by simp) (by simp) (by omega) _ (T2.alloc _) (four w2 0 60 (-300) 570 3)).mono ?_
  rintro e w3 ⟨o, rfl, m3, T3, O3⟩
  have O03 := (O02.alloc _).trans O3
  have hs3 : w.heap.size < w3.heap.size := T3.lt
  clear T2 O02 O3
  simp only [List.mem_cons, List.not_mem_nil, or_false] at m2 m3
  have b0 : -60 ≤ by_ := by omega
  have b1 : by_ ≤ 60 := by omega
  have o0 : -300 ≤ o := by omega
  have o1 : o ≤ 570 := by omega
  clear m2 m3
  go_wp2_with fail
  have Z3 := ZBox.new w3 o none 0 0
  refine (next_any w.heap.size 4320 (by omega) (by omega) _ (T3.alloc _)).mono ?_
  rintro e w4 ⟨q, rfl, q0, q1, T4, O4⟩
  have O04 := (O03.alloc _).trans O4
  have Z4 := Z3.only O4 (by omega)
  have hs4 : w3.heap.size < w4.heap.size := Z4.lt
  have z0 := Z4.c0
  have z1 := Z4.c1
  have zf := Z4.f1
  clear Z3 T3 O03 O4
  go_wp2_with fail
  have at0 : 29453760 ≤ 29453760 + q := by omega
  have at1 : 29453760 + q ≤ 29458079 := by omega
  have C1 := begin_any o (some ⟨w4.heap.size, 0, none⟩) 1 1 [(29453760 + q, o + by_)] 20452 (by omega)
  rw [len_a (by omega) (by omega) (by omega) (by omega) at0 at1, bE_ok (vE_one (by omega) (by omega) (by omega) (by omega) (by omega) (by omega)) (by omega) (by omega)] at C1
  have C2 := begin_any o (some ⟨w4.heap.size, 0, none⟩) 1 1 [(29453760 + q, o + by_)] 20460 (by omega)
  rw [len_b (by omega) (by omega) (by omega) (by omega) at0 at1, bE_ok (vE_one (by omega) (by omega) (by omega) (by omega) (by omega) (by omega)) (by omega) (by omega)] at C2
  have m0 := modT_lo n 84003 (by omega)
  have m1 := modT_hi n 84003 (by omega)
  have C3 := begin_any o none 0 0 [] (1 + modT n 84003) (by omega)
  rw [len_none (by omega) (by omega) (by omega) (by omega), bE_ok (vE_none (by omega) (by omega)) (by omega) (by omega)] at C3
  have C4 := begin_any o none 0 0 [] (1 + modT n 84003 + 1) (by omega)
  rw [len_none (by omega) (by omega) (by omega) (by omega), bE_ok (vE_none (by omega) (by omega)) (by omega) (by omega)] at C4
  have hM := mod_any n 84003 n0 n1 (by omega) (by omega)
  have H1 := Lib.hid C1
  have H2 := Lib.hid C2
  have H3 := Lib.hid C3
  have H4 := Lib.hid C4
  have HM := Lib.hid hM
  clear C1 C2 C3 C4 hM
  generalize modT n 84003 = d at *
  have Z5 : ZBox (w4.setCell ⟨w3.heap.size, 1, none⟩ (.slice (some ⟨w4.heap.size, 0, none⟩) 1 1)) w3.heap.size o (some ⟨w4.heap.size, 0, none⟩) 1 1 := box_set1 Z4 _
  have O5 : Only w.heap.size w (w4.setCell ⟨w3.heap.size, 1, none⟩ (.slice (some ⟨w4.heap.size, 0, none⟩) 1 1)) := O04.setCell (p := ⟨w3.heap.size, 1, none⟩) (.inr (by show w.heap.size ≤ w3.heap.size; omega)) _
  have e5 : (w4.setCell ⟨w3.heap.size, 1, none⟩ (.slice (some ⟨w4.heap.size, 0, none⟩) 1 1)).heap.size = w4.heap.size := by simp [World.setCell]
  have R5 := row_one (w4.setCell ⟨w3.heap.size, 1, none⟩ (.slice (some ⟨w4.heap.size, 0, none⟩) 1 1)) (29453760 + q) (o + by_) 27
  rw [e5] at R5
  clear e5
  generalize (w4.setCell ⟨w3.heap.size, 1, none⟩ (.slice (some ⟨w4.heap.size, 0, none⟩) 1 1)) = w5 at *
  have Z6 := Z5.alloc (.cells #[.int .i64 (29453760 + q), .int .i64 (o + by_)] 27)
  have B6 : Below w.heap.size w (w5.alloc (.cells #[.int .i64 (29453760 + q), .int .i64 (o + by_)] 27)) := (O5.alloc _).below (Nat.le_refl _) (Nat.le_refl _)
  clear Z5 O5 Z4 O04 z0 z1 zf T4
  refine (H1.out _ R5).mono ?_
  rintro e w6 ⟨rfl, h6⟩
  have Z7 := Z6.below h6
  have R7 := row_more R5 h6
  have B7 := B6.trans (h6.mono B6.size)
  have z0 := Z7.c0
  have z1 := Z7.c1
  clear Z6 R5 B6 h6
  go_wp2_with fail
  refine (H2.out _ R7).mono ?_
  rintro e w8 ⟨rfl, h8⟩
  have Z9 := Z7.below h8
  have B9 := B7.trans (h8.mono B7.size)
  clear z0 z1 Z7 R7 B7 h8
  go_wp2_with fail
  refine (HM.out _).mono ?_
  rintro e w9 ⟨rfl, rfl⟩
  have z0 := Z9.c0
  have z1 := Z9.c1
  go_wp2_with fail
  refine (H3.out _ (row_none _ _)).mono ?_
  rintro e w10 ⟨rfl, h10⟩
  have Z11 := Z9.below h10
  have B11 := B9.trans (h10.mono B9.size)
  clear z0 z1 Z9 B9 h10
  have z0 := Z11.c0
  have z1 := Z11.c1
  go_wp2_with fail
  refine (H4.out _ (row_none _ _)).mono ?_
  rintro e w12 ⟨rfl, h12⟩
  have B13 := B11.trans (h12.mono B11.size)
  clear z0 z1 Z11 B11 h12
  have t1 : (29462400 - (o + by_) - (29450880 - o) == 11520 - by_) = true := by simp; omega
  have t2 : ((1 + d + 1) * 1440 - o - ((1 + d) * 1440 - o) == 1440) = true := by simp; omega
  go_wp2_with fail
  refine (sane_any _).mono ?_
  rintro e w14 ⟨rfl, h14⟩
  go_wp2
  go_ret
  exact ⟨rfl, B13.trans (h14.mono B13.size)⟩
end Go.Proofs.Ytbbfkpkibakieaa
