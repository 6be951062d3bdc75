/-
  RatioOrder: the walk: Compare is a total order of three made fractions that sums and positive factors respect, and Floor is the greatest integer below; the answer is true.
-/
import Derived.Test.YtpdkmmiedkkpeaaDoorPrRat3
import Derived.Test.YtpdkmmiedkkpeaaDoorPrLawField
import Derived.Deep.DeepCutAuto
namespace Go.Proofs.YtpdkmmiedkkpeaaDoor
open Go Go.RowKit Go.Lib Go.Proofs.YtpdkmmiedkkpeaaDoor.Tp

structure OI (w w3 : World) (a b c d f g : Int) (v : World) : Prop where
  x : Res v w3.heap.size a b
  y : Res v (w3.heap.size + 1) c d
  z : Res v (w3.heap.size + 1 + 1) f g
  below : Below w.heap.size w v
theorem OI.more {w w3 : World} {a b c d f g : Int} {u v : World} (h : OI w w3 a b c d f g u) (hb : Below u.heap.size u v) : OI w w3 a b c d f g v :=
  ⟨h.x.below hb, h.y.below hb, h.z.below hb, h.below.trans (hb.mono h.below.size)⟩
theorem OI.alloc {w w3 : World} {a b c d f g : Int} {u : World} (h : OI w w3 a b c d f g u) (o : Obj) : OI w w3 a b c d f g (u.alloc o) := h.more (Below.alloc (Below.refl _ _) (Nat.le_refl _) o)
theorem Tp.Res.far {u : World} {s : Nat} {x y : Int} (h : Res u s x y) {p : Addr} (hp : p.block ≠ s) (v : Value) : Res (u.setCell p v) s x y := by
  have hf : (u.setCell p v).heap[s]? = u.heap[s]? := Below.heap_setCell u p v s (fun e => hp e.symm)
  exact ⟨(World.cell?_of_block (a := ⟨s, 0, none⟩) hf).trans h.c0, (World.cell?_of_block (a := ⟨s, 1, none⟩) hf).trans h.c1, (World.frozen?_of_block (a := ⟨s, 0, none⟩) hf).trans h.f0, (World.frozen?_of_block (a := ⟨s, 1, none⟩) hf).trans h.f1⟩
theorem Tp.Res.put {u : World} {s : Nat} {x y : Int} (h : Res u s x y) (x' y' : Int) : Res ((u.setCell ⟨s, 0, none⟩ (.int .i64 x')).setCell ⟨s, 1, none⟩ (.int .i64 y')) s x' y' := by
  obtain ⟨c0, c1, f0, f1⟩ := h
  have hs : s < u.heap.size := World.block_lt_of_cell? _ _ c0
  exact ⟨by go_simp, by go_simp, by go_simp, by go_simp⟩
theorem OI.far {w w3 : World} {a b c d f g : Int} {u : World} (h : OI w w3 a b c d f g u) {p : Addr} (hp : w3.heap.size + 1 + 1 < p.block) (hw : w.heap.size ≤ p.block) (v : Value) : OI w w3 a b c d f g (u.setCell p v) :=
  ⟨h.x.far (by omega) v, h.y.far (by omega) v, h.z.far (by omega) v, h.below.setCell hw v⟩
theorem cmp_bd (a b c d : Int) : -1 ≤ cmpT a b c d ∧ cmpT a b c d ≤ 1 := by
  unfold cmpT
  split
  · split
    · omega
    · split <;> omega
  · omega
theorem floor_bd (a b : Int) (h : vldB a b = true) : -1000000000000 ≤ floorT a b ∧ floorT a b ≤ 1000000000000 := by
  obtain ⟨h1, h2, h3, h4⟩ := vld_bd h
  have e : floorT a b = a / b := by unfold floorT; rw [h]; rfl
  have m := Int.lt_ediv_add_one_mul_self a (b := b) (by omega)
  have m2 := Int.ediv_mul_le a (b := b) (by omega)
  rw [e]
  constructor
  · rcases Int.lt_or_le (a / b) (-1000000000000) with k | k
    · have q : b * (a / b + 1) ≤ 1 * (a / b + 1) := Int.mul_le_mul_of_nonpos_right h1 (by omega)
      rw [Int.mul_comm b] at q
      omega
    · exact k
  · rcases Int.lt_or_le 1000000000000 (a / b) with k | k
    · have q : 1 * (a / b) ≤ b * (a / b) := Int.mul_le_mul_of_nonneg_right h1 (by omega)
      rw [Int.mul_comm b] at q
      omega
    · exact k

set_option maxRecDepth 100000 in
set_option maxHeartbeats 16000000 in
theorem order_walk (p : Option Addr) (len cap : Nat) (zs : List Int) (w : World) (hr : IsRow w p len cap zs) (hl : len ≤ 9223372036854775807) (hok : OKW w) :
    Calls Tryd.prog 8 #[.slice p len cap] w fun e w' => e = .returned (.bool true) ∧ Below w.heap.size w w' := by
  have T0 := tape_new hr hl 54
  clear hr
  go_enter Tryd.func8, Tryd.ntmps8
  go_wp2_with fail
  refine (gnew_any _ _ _ _).mono ?_
  rintro e w' ⟨rfl, rfl⟩
  go_wp2_with fail
  refine (ratio_any w.heap.size _ T0).mono ?_
  rintro e w1 ⟨a, b, rfl, hv1, T1, O1⟩
  have O01 : Only w.heap.size w w1 := ((Only.refl _ _).alloc _).trans O1
  go_wp2_with fail
  refine (ratio_any w.heap.size _ T1).mono ?_
  rintro e w2 ⟨c, d, rfl, hv2, T2, O2⟩
  go_wp2_with fail
  refine (ratio_any w.heap.size _ T2).mono ?_
  rintro e w3 ⟨f, g, rfl, hv3, T3, O3⟩
  have hB3 : Below w.heap.size w w3 := ((O01.trans O2).trans O3).below (Nat.le_refl _) (Nat.le_refl _)
  obtain ⟨a2, a3, a0, a1⟩ := vld_bd hv1
  obtain ⟨c2, c3, c0, c1⟩ := vld_bd hv2
  obtain ⟨e2, e3, e0, e1⟩ := vld_bd hv3
  clear T0 T1 T2 T3 O1 O2 O3 O01
  have hw0 : w.heap.size ≤ w3.heap.size := hB3.size
  have I0 : OI w w3 a b c d f g (((w3.alloc (.cells #[.int .i64 a, .int .i64 b] 23)).alloc (.cells #[.int .i64 c, .int .i64 d] 23)).alloc (.cells #[.int .i64 f, .int .i64 g] 23)) :=
    ⟨((Res.new w3 a b _).alloc _).alloc _, by simpa using ((Res.new (w3.alloc (.cells #[.int .i64 a, .int .i64 b] 23)) c d 23).alloc (.cells #[.int .i64 f, .int .i64 g] 23)), by simpa using (Res.new ((w3.alloc (.cells #[.int .i64 a, .int .i64 b] 23)).alloc (.cells #[.int .i64 c, .int .i64 d] 23)) f g 23), hB3.trans ((boxed3 _ _ _ _).mono hB3.size)⟩
  have X1 := Lib.hid (ord_anti c d a b hv2 hv1)
  have X2 := ord_eq a b c d hv1 hv2
  have X3 := Lib.hid (ord_trans a b c d f g hv1 hv2 hv3)
  have X4 := Lib.hid (ord_add a b c d f g hv1 hv2 hv3)
  have X5 := Lib.hid (ord_mul a b c d f g hv1 hv2 hv3)
  obtain ⟨x1, x2⟩ := cmp_bd a b c d
  obtain ⟨m1, m2, m3, m4⟩ := add_sm a b f g
  obtain ⟨n1, n2, n3, n4⟩ := add_sm c d f g
  obtain ⟨o1, o2, o3, o4⟩ := mul_sm a b f g
  obtain ⟨r1, r2, r3, r4⟩ := mul_sm c d f g
  obtain ⟨k1, k2⟩ := floor_bd a b hv1
  go_wp2_with fail
  refine (cmp_any a b c d (by omega) (by omega) (by omega) (by omega) (by omega) (by omega) (by omega) (by omega) _).mono ?_
  rintro e w4 ⟨rfl, hw4⟩
  have I4 := I0.more hw4
  clear I0
  go_upto_region 4 with fail
  go_cut [53] (fun s53 wx => s53 = .bool false ∧ OI w w3 a b c d f g wx)
  case first =>
    have q0 := I4.x.c0
    have q1 := I4.x.c1
    have q2 := I4.y.c0
    have q3 := I4.y.c1
    have q4 := I4.z.c0
    have q5 := I4.z.c1
    have zz0 : w3.heap.size < w4.heap.size := World.block_lt_of_cell? _ _ q0
    have zz1 : w3.heap.size + 1 < w4.heap.size := World.block_lt_of_cell? _ _ q2
    have zz2 : w3.heap.size + 1 + 1 < w4.heap.size := World.block_lt_of_cell? _ _ q4
    clear m1 m2 m3 m4 n1 n2 n3 n4 o1 o2 o3 o4 r1 r2 r3 r4 k1 k2 hw4
    clear X4 X5
    have X2h := Lib.hid X2
    clear X2
    go_wp2_with fail
    refine (cmp_any c d a b (by omega) (by omega) (by omega) (by omega) (by omega) (by omega) (by omega) (by omega) _).mono ?_
    rw [X1.out]
    rintro e w5 ⟨rfl, hw5⟩
    have I5 := I4.more hw5
    clear q0 q1 q2 q3 q4 q5 zz0 zz1 zz2
    have q0 := I5.x.c0
    have q1 := I5.x.c1
    have q2 := I5.y.c0
    have q3 := I5.y.c1
    have q4 := I5.z.c0
    have q5 := I5.z.c1
    have zz0 : w3.heap.size < w5.heap.size := World.block_lt_of_cell? _ _ q0
    have zz1 : w3.heap.size + 1 < w5.heap.size := World.block_lt_of_cell? _ _ q2
    have zz2 : w3.heap.size + 1 + 1 < w5.heap.size := World.block_lt_of_cell? _ _ q4
    clear I4 hw5
    rcases hac : (a == c) with _ | _
    · rcases hbd : (b == d) with _ | _
      · have hx : (cmpT a b c d == 0) = false := by rw [X2h.out, hac, hbd]; rfl
        by_cases g1 : (cmpT a b c d) ≤ 0
        · have g2 : decide ((cmpT a b c d) ≤ 0) = true := decide_eq_true g1
          go_wp2_with fail
          refine (cmp_any c d f g (by omega) (by omega) (by omega) (by omega) (by omega) (by omega) (by omega) (by omega) _).mono ?_
          rintro e w6 ⟨rfl, hw6⟩
          have I6 := I5.more hw6
          clear q0 q1 q2 q3 q4 q5 zz0 zz1 zz2
          have q0 := I6.x.c0
          have q1 := I6.x.c1
          have q2 := I6.y.c0
          have q3 := I6.y.c1
          have q4 := I6.z.c0
          have q5 := I6.z.c1
          have zz0 : w3.heap.size < w6.heap.size := World.block_lt_of_cell? _ _ q0
          have zz1 : w3.heap.size + 1 < w6.heap.size := World.block_lt_of_cell? _ _ q2
          have zz2 : w3.heap.size + 1 + 1 < w6.heap.size := World.block_lt_of_cell? _ _ q4
          clear I5 hw6
          by_cases g3 : cmpT c d f g ≤ 0
          · have g4 : decide (cmpT c d f g ≤ 0) = true := decide_eq_true g3
            have g5 : cmpT a b f g ≤ 0 := X3.out g1 g3
            have g6 : decide (0 < cmpT a b f g) = false := decide_eq_false (by omega)
            go_wp2_with fail
            refine (cmp_any a b f g (by omega) (by omega) (by omega) (by omega) (by omega) (by omega) (by omega) (by omega) _).mono ?_
            rintro e w7 ⟨rfl, hw7⟩
            have I7 := I6.more hw7
            clear I6 hw7
            clear q0 q1 q2 q3 q4 q5 zz0 zz1 zz2
            go_wp2_with fail
            go_meet
            exact ⟨rfl, I7⟩
          · have g4 : decide (cmpT c d f g ≤ 0) = false := decide_eq_false g3
            go_wp2_with fail
            go_meet
            exact ⟨rfl, I6⟩
        · have g2 : decide ((cmpT a b c d) ≤ 0) = false := decide_eq_false g1
          go_wp2_with fail
          go_meet
          exact ⟨rfl, I5⟩
      · have hx : (cmpT a b c d == 0) = false := by rw [X2h.out, hac, hbd]; rfl
        by_cases g1 : (cmpT a b c d) ≤ 0
        · have g2 : decide ((cmpT a b c d) ≤ 0) = true := decide_eq_true g1
          go_wp2_with fail
          refine (cmp_any c d f g (by omega) (by omega) (by omega) (by omega) (by omega) (by omega) (by omega) (by omega) _).mono ?_
          rintro e w6 ⟨rfl, hw6⟩
          have I6 := I5.more hw6
          clear q0 q1 q2 q3 q4 q5 zz0 zz1 zz2
          have q0 := I6.x.c0
          have q1 := I6.x.c1
          have q2 := I6.y.c0
          have q3 := I6.y.c1
          have q4 := I6.z.c0
          have q5 := I6.z.c1
          have zz0 : w3.heap.size < w6.heap.size := World.block_lt_of_cell? _ _ q0
          have zz1 : w3.heap.size + 1 < w6.heap.size := World.block_lt_of_cell? _ _ q2
          have zz2 : w3.heap.size + 1 + 1 < w6.heap.size := World.block_lt_of_cell? _ _ q4
          clear I5 hw6
          by_cases g3 : cmpT c d f g ≤ 0
          · have g4 : decide (cmpT c d f g ≤ 0) = true := decide_eq_true g3
            have g5 : cmpT a b f g ≤ 0 := X3.out g1 g3
            have g6 : decide (0 < cmpT a b f g) = false := decide_eq_false (by omega)
            go_wp2_with fail
            refine (cmp_any a b f g (by omega) (by omega) (by omega) (by omega) (by omega) (by omega) (by omega) (by omega) _).mono ?_
            rintro e w7 ⟨rfl, hw7⟩
            have I7 := I6.more hw7
            clear I6 hw7
            clear q0 q1 q2 q3 q4 q5 zz0 zz1 zz2
            go_wp2_with fail
            go_meet
            exact ⟨rfl, I7⟩
          · have g4 : decide (cmpT c d f g ≤ 0) = false := decide_eq_false g3
            go_wp2_with fail
            go_meet
            exact ⟨rfl, I6⟩
        · have g2 : decide ((cmpT a b c d) ≤ 0) = false := decide_eq_false g1
          go_wp2_with fail
          go_meet
          exact ⟨rfl, I5⟩
    · rcases hbd : (b == d) with _ | _
      · have hx : (cmpT a b c d == 0) = false := by rw [X2h.out, hac, hbd]; rfl
        by_cases g1 : (cmpT a b c d) ≤ 0
        · have g2 : decide ((cmpT a b c d) ≤ 0) = true := decide_eq_true g1
          go_wp2_with fail
          refine (cmp_any c d f g (by omega) (by omega) (by omega) (by omega) (by omega) (by omega) (by omega) (by omega) _).mono ?_
          rintro e w6 ⟨rfl, hw6⟩
          have I6 := I5.more hw6
          clear q0 q1 q2 q3 q4 q5 zz0 zz1 zz2
          have q0 := I6.x.c0
          have q1 := I6.x.c1
          have q2 := I6.y.c0
          have q3 := I6.y.c1
          have q4 := I6.z.c0
          have q5 := I6.z.c1
          have zz0 : w3.heap.size < w6.heap.size := World.block_lt_of_cell? _ _ q0
          have zz1 : w3.heap.size + 1 < w6.heap.size := World.block_lt_of_cell? _ _ q2
          have zz2 : w3.heap.size + 1 + 1 < w6.heap.size := World.block_lt_of_cell? _ _ q4
          clear I5 hw6
          by_cases g3 : cmpT c d f g ≤ 0
          · have g4 : decide (cmpT c d f g ≤ 0) = true := decide_eq_true g3
            have g5 : cmpT a b f g ≤ 0 := X3.out g1 g3
            have g6 : decide (0 < cmpT a b f g) = false := decide_eq_false (by omega)
            go_wp2_with fail
            refine (cmp_any a b f g (by omega) (by omega) (by omega) (by omega) (by omega) (by omega) (by omega) (by omega) _).mono ?_
            rintro e w7 ⟨rfl, hw7⟩
            have I7 := I6.more hw7
            clear I6 hw7
            clear q0 q1 q2 q3 q4 q5 zz0 zz1 zz2
            go_wp2_with fail
            go_meet
            exact ⟨rfl, I7⟩
          · have g4 : decide (cmpT c d f g ≤ 0) = false := decide_eq_false g3
            go_wp2_with fail
            go_meet
            exact ⟨rfl, I6⟩
        · have g2 : decide ((cmpT a b c d) ≤ 0) = false := decide_eq_false g1
          go_wp2_with fail
          go_meet
          exact ⟨rfl, I5⟩
      · have hx : (cmpT a b c d == 0) = true := by rw [X2h.out, hac, hbd]; rfl
        by_cases g1 : (cmpT a b c d) ≤ 0
        · have g2 : decide ((cmpT a b c d) ≤ 0) = true := decide_eq_true g1
          go_wp2_with fail
          refine (cmp_any c d f g (by omega) (by omega) (by omega) (by omega) (by omega) (by omega) (by omega) (by omega) _).mono ?_
          rintro e w6 ⟨rfl, hw6⟩
          have I6 := I5.more hw6
          clear q0 q1 q2 q3 q4 q5 zz0 zz1 zz2
          have q0 := I6.x.c0
          have q1 := I6.x.c1
          have q2 := I6.y.c0
          have q3 := I6.y.c1
          have q4 := I6.z.c0
          have q5 := I6.z.c1
          have zz0 : w3.heap.size < w6.heap.size := World.block_lt_of_cell? _ _ q0
          have zz1 : w3.heap.size + 1 < w6.heap.size := World.block_lt_of_cell? _ _ q2
          have zz2 : w3.heap.size + 1 + 1 < w6.heap.size := World.block_lt_of_cell? _ _ q4
          clear I5 hw6
          by_cases g3 : cmpT c d f g ≤ 0
          · have g4 : decide (cmpT c d f g ≤ 0) = true := decide_eq_true g3
            have g5 : cmpT a b f g ≤ 0 := X3.out g1 g3
            have g6 : decide (0 < cmpT a b f g) = false := decide_eq_false (by omega)
            go_wp2_with fail
            refine (cmp_any a b f g (by omega) (by omega) (by omega) (by omega) (by omega) (by omega) (by omega) (by omega) _).mono ?_
            rintro e w7 ⟨rfl, hw7⟩
            have I7 := I6.more hw7
            clear I6 hw7
            clear q0 q1 q2 q3 q4 q5 zz0 zz1 zz2
            go_wp2_with fail
            go_meet
            exact ⟨rfl, I7⟩
          · have g4 : decide (cmpT c d f g ≤ 0) = false := decide_eq_false g3
            go_wp2_with fail
            go_meet
            exact ⟨rfl, I6⟩
        · have g2 : decide ((cmpT a b c d) ≤ 0) = false := decide_eq_false g1
          go_wp2_with fail
          go_meet
          exact ⟨rfl, I5⟩
  case rest =>
    obtain ⟨rfl, hI⟩ := hcut
    have q0 := hI.x.c0
    have q1 := hI.x.c1
    have q2 := hI.y.c0
    have q3 := hI.y.c1
    have q4 := hI.z.c0
    have q5 := hI.z.c1
    have zz0 : w3.heap.size < wc.heap.size := World.block_lt_of_cell? _ _ q0
    have zz1 : w3.heap.size + 1 < wc.heap.size := World.block_lt_of_cell? _ _ q2
    have zz2 : w3.heap.size + 1 + 1 < wc.heap.size := World.block_lt_of_cell? _ _ q4
    clear I4 hw4
    go_wp2_with fail
    refine (add_any a b f g (by omega) (by omega) (by omega) (by omega) (by omega) (by omega) (by omega) (by omega) _).mono ?_
    rintro e w7 ⟨rfl, hw7⟩
    have I7 := hI.more hw7
    clear q0 q1 q2 q3 q4 q5 zz0 zz1 zz2
    have q0 := I7.x.c0
    have q1 := I7.x.c1
    have q2 := I7.y.c0
    have q3 := I7.y.c1
    have q4 := I7.z.c0
    have q5 := I7.z.c1
    have zz0 : w3.heap.size < w7.heap.size := World.block_lt_of_cell? _ _ q0
    have zz1 : w3.heap.size + 1 < w7.heap.size := World.block_lt_of_cell? _ _ q2
    have zz2 : w3.heap.size + 1 + 1 < w7.heap.size := World.block_lt_of_cell? _ _ q4
    clear hI hw7
    go_wp2_with fail
    refine (add_any c d f g (by omega) (by omega) (by omega) (by omega) (by omega) (by omega) (by omega) (by omega) _).mono ?_
    rintro e w8 ⟨rfl, hw8⟩
    have I8 := (I7.alloc _).more hw8
    have P8 := (Res.new w7 (addT a b f g).1 (addT a b f g).2.1 23).below hw8
    have b7 : w3.heap.size + 1 + 1 < w7.heap.size := zz2
    have b8 : w7.heap.size < w8.heap.size := World.block_lt_of_cell? _ _ P8.c0
    clear I7 hw8
    clear q0 q1 q2 q3 q4 q5 zz0 zz1 zz2
    go_upto_region 8 with fail
    have I9 := I8.alloc (.cells #[.int .i64 (addT c d f g).1, .int .i64 (addT c d f g).2.1] 23)
    have P9 := P8.alloc (.cells #[.int .i64 (addT c d f g).1, .int .i64 (addT c d f g).2.1] 23)
    have Q9 := Res.new w8 (addT c d f g).1 (addT c d f g).2.1 23
    clear I8 P8
    generalize hw9 : w8.alloc (.cells #[.int .i64 (addT c d f g).1, .int .i64 (addT c d f g).2.1] 23) = w9 at I9 P9 Q9 ⊢
    clear hw9
    go_cut [78] (fun s78 wx => s78 = .bool false ∧ OI w w3 a b c d f g wx ∧ Res wx w7.heap.size (addT a b f g).1 (addT a b f g).2.1 ∧ Res wx w8.heap.size (addT c d f g).1 (addT c d f g).2.1)
    case first =>
      have q0 := P9.c0
      have q1 := P9.c1
      have q2 := Q9.c0
      have q3 := Q9.c1
      have zz0 : w7.heap.size < w9.heap.size := World.block_lt_of_cell? _ _ q0
      have zz1 : w8.heap.size < w9.heap.size := World.block_lt_of_cell? _ _ q2
      by_cases he : (addT a b f g).2.2 = 0
      · have he1 : ((addT a b f g).2.2 == 0) = true := by simp; exact he
        by_cases hf : (addT c d f g).2.2 = 0
        · have hf1 : ((addT c d f g).2.2 == 0) = true := by simp; exact hf
          have hx := X4.out he hf
          have he2 := Lib.hid he
          have hf2 := Lib.hid hf
          clear he hf
          go_wp2_with fail
          refine (cmp_any (addT a b f g).1 (addT a b f g).2.1 (addT c d f g).1 (addT c d f g).2.1 (by omega) (by omega) (by omega) (by omega) (by omega) (by omega) (by omega) (by omega) _).mono ?_
          rw [hx]
          clear hx
          rintro e w10 ⟨rfl, hw10⟩
          clear q0 q1 q2 q3
          go_wp2_with fail
          go_meet
          exact ⟨rfl, I9.more hw10, P9.below hw10, Q9.below hw10⟩
        · have hf1 : ((addT c d f g).2.2 == 0) = false := by simp; exact hf
          have he2 := Lib.hid he
          have hf2 := Lib.hid hf
          clear he hf
          go_wp2_with fail
          go_meet
          exact ⟨rfl, I9, P9, Q9⟩
      · have he1 : ((addT a b f g).2.2 == 0) = false := by simp; exact he
        have he2 := Lib.hid he
        clear he
        go_wp2_with fail
        go_meet
        exact ⟨rfl, I9, P9, Q9⟩
    case rest =>
      obtain ⟨rfl, hI, hP, hQ⟩ := hcut
      clear I9 P9 Q9 X4
      have q0 := hI.x.c0
      have q1 := hI.x.c1
      have q2 := hI.y.c0
      have q3 := hI.y.c1
      have q4 := hI.z.c0
      have q5 := hI.z.c1
      have zz0 : w3.heap.size < wc.heap.size := World.block_lt_of_cell? _ _ q0
      have zz1 : w3.heap.size + 1 < wc.heap.size := World.block_lt_of_cell? _ _ q2
      have zz2 : w3.heap.size + 1 + 1 < wc.heap.size := World.block_lt_of_cell? _ _ q4
      go_wp2_with fail
      refine (mul_any a b f g (by omega) (by omega) (by omega) (by omega) (by omega) (by omega) (by omega) (by omega) _).mono ?_
      rintro e w10 ⟨rfl, hw10⟩
      have I10 := hI.more hw10
      have P10 := hP.below hw10
      have Q10 := hQ.below hw10
      clear q0 q1 q2 q3 q4 q5 zz0 zz1 zz2
      have q0 := I10.x.c0
      have q1 := I10.x.c1
      have q2 := I10.y.c0
      have q3 := I10.y.c1
      have q4 := I10.z.c0
      have q5 := I10.z.c1
      have zz0 : w3.heap.size < w10.heap.size := World.block_lt_of_cell? _ _ q0
      have zz1 : w3.heap.size + 1 < w10.heap.size := World.block_lt_of_cell? _ _ q2
      have zz2 : w3.heap.size + 1 + 1 < w10.heap.size := World.block_lt_of_cell? _ _ q4
      have u0 := P10.c0
      have u1 := P10.c1
      have u2 := P10.f0
      have u3 := P10.f1
      have zz3 : w7.heap.size < w10.heap.size := World.block_lt_of_cell? _ _ u0
      clear hI hP hQ hw10
      go_wp2_with fail
      refine (mul_any c d f g (by omega) (by omega) (by omega) (by omega) (by omega) (by omega) (by omega) (by omega) _).mono ?_
      rintro e w11 ⟨rfl, hw11⟩
      have I11 := ((I10.far (p := ⟨w7.heap.size, 0, none⟩) b7 (by simp; omega) (.int .i64 (mulT a b f g).1)).far (p := ⟨w7.heap.size, 1, none⟩) b7 (by simp; omega) (.int .i64 (mulT a b f g).2.1)).more hw11
      have P11 := (P10.put (mulT a b f g).1 (mulT a b f g).2.1).below hw11
      have Q11 := ((Q10.far (p := ⟨w7.heap.size, 0, none⟩) (by simp; omega) (.int .i64 (mulT a b f g).1)).far (p := ⟨w7.heap.size, 1, none⟩) (by simp; omega) (.int .i64 (mulT a b f g).2.1)).below hw11
      clear u0 u1 u2 u3 zz3 I10 P10 Q10 hw11
      clear q0 q1 q2 q3 q4 q5 zz0 zz1 zz2
      have u0 := Q11.c0
      have u1 := Q11.c1
      have u2 := Q11.f0
      have u3 := Q11.f1
      have zz3 : w8.heap.size < w11.heap.size := World.block_lt_of_cell? _ _ u0
      go_upto_region 12 with fail
      have b9 : w.heap.size ≤ w8.heap.size := by omega
      have b10 : w3.heap.size + 1 + 1 < w8.heap.size := by omega
      have I12 := (I11.far (p := ⟨w8.heap.size, 0, none⟩) b10 b9 (.int .i64 (mulT c d f g).1)).far (p := ⟨w8.heap.size, 1, none⟩) b10 b9 (.int .i64 (mulT c d f g).2.1)
      have P12 := (P11.far (p := ⟨w8.heap.size, 0, none⟩) (by simp; omega) (.int .i64 (mulT c d f g).1)).far (p := ⟨w8.heap.size, 1, none⟩) (by simp; omega) (.int .i64 (mulT c d f g).2.1)
      have Q12 := Q11.put (mulT c d f g).1 (mulT c d f g).2.1
      clear u0 u1 u2 u3 zz3 I11 P11 Q11
      generalize hw12 : (w11.setCell ⟨w8.heap.size, 0, none⟩ (.int .i64 (mulT c d f g).1)).setCell ⟨w8.heap.size, 1, none⟩ (.int .i64 (mulT c d f g).2.1) = w12 at I12 P12 Q12 ⊢
      clear hw12
      go_cut [108] (fun s108 wx => s108 = .bool false ∧ OI w w3 a b c d f g wx)
      case first =>
        have q0 := P12.c0
        have q1 := P12.c1
        have q2 := Q12.c0
        have q3 := Q12.c1
        have q4 := I12.z.c0
        have q5 := I12.z.c1
        have zz0 : w7.heap.size < w12.heap.size := World.block_lt_of_cell? _ _ q0
        have zz1 : w8.heap.size < w12.heap.size := World.block_lt_of_cell? _ _ q2
        have zz2 : w3.heap.size + 1 + 1 < w12.heap.size := World.block_lt_of_cell? _ _ q4
        clear P12 Q12
        by_cases he : (mulT a b f g).2.2 = 0
        · have he1 : ((mulT a b f g).2.2 == 0) = true := by simp; exact he
          by_cases hf : (mulT c d f g).2.2 = 0
          · have hf1 : ((mulT c d f g).2.2 == 0) = true := by simp; exact hf
            by_cases hc : 0 < f
            · have hc1 : decide (0 < f) = true := decide_eq_true hc
              have hx := X5.out hc he hf
              have he2 := Lib.hid he
              have hf2 := Lib.hid hf
              clear he hf
              go_wp2_with fail
              refine (cmp_any (mulT a b f g).1 (mulT a b f g).2.1 (mulT c d f g).1 (mulT c d f g).2.1 (by omega) (by omega) (by omega) (by omega) (by omega) (by omega) (by omega) (by omega) _).mono ?_
              rw [hx]
              clear hx
              rintro e w13 ⟨rfl, hw13⟩
              clear q0 q1 q2 q3 q4 q5
              go_wp2_with fail
              go_meet
              exact ⟨rfl, I12.more hw13⟩
            · have hc1 : decide (0 < f) = false := decide_eq_false hc
              have he2 := Lib.hid he
              have hf2 := Lib.hid hf
              clear he hf
              go_wp2_with fail
              go_meet
              exact ⟨rfl, I12⟩
          · have hf1 : ((mulT c d f g).2.2 == 0) = false := by simp; exact hf
            have he2 := Lib.hid he
            have hf2 := Lib.hid hf
            clear he hf
            go_wp2_with fail
            go_meet
            exact ⟨rfl, I12⟩
        · have he1 : ((mulT a b f g).2.2 == 0) = false := by simp; exact he
          have he2 := Lib.hid he
          clear he
          go_wp2_with fail
          go_meet
          exact ⟨rfl, I12⟩
      case rest =>
        obtain ⟨rfl, hI⟩ := hcut
        clear I12 P12 Q12 X5 X1 X3
        have L1 := Lib.hid (floor_le a b hv1)
        have L2 := Lib.hid (floor_gt a b hv1)
        have q0 := hI.x.c0
        have q1 := hI.x.c1
        have q2 := hI.y.c0
        have q3 := hI.y.c1
        have q4 := hI.z.c0
        have q5 := hI.z.c1
        have zz0 : w3.heap.size < wc.heap.size := World.block_lt_of_cell? _ _ q0
        have zz1 : w3.heap.size + 1 < wc.heap.size := World.block_lt_of_cell? _ _ q2
        have zz2 : w3.heap.size + 1 + 1 < wc.heap.size := World.block_lt_of_cell? _ _ q4
        go_wp2_with fail
        refine (floor_any a b (by omega) (by omega) (by omega) (by omega) _).mono ?_
        rintro e w14 ⟨rfl, hw14⟩
        have I14 := hI.more hw14
        generalize floorT a b = n at k1 k2 L1 L2 ⊢
        clear q0 q1 q2 q3 q4 q5 zz0 zz1 zz2
        have q0 := I14.x.c0
        have q1 := I14.x.c1
        have q2 := I14.y.c0
        have q3 := I14.y.c1
        have q4 := I14.z.c0
        have q5 := I14.z.c1
        have zz0 : w3.heap.size < w14.heap.size := World.block_lt_of_cell? _ _ q0
        have zz1 : w3.heap.size + 1 < w14.heap.size := World.block_lt_of_cell? _ _ q2
        have zz2 : w3.heap.size + 1 + 1 < w14.heap.size := World.block_lt_of_cell? _ _ q4
        clear hI hw14
        go_wp2_with fail
        refine (cmp_any n 1 a b (by omega) (by omega) (by omega) (by omega) (by omega) (by omega) (by omega) (by omega) _).mono ?_
        rintro e w15 ⟨rfl, hw15⟩
        have I15 := I14.more hw15
        have l1 : decide (cmpT n 1 a b ≤ 0) = true := decide_eq_true L1.out
        clear L1
        clear q0 q1 q2 q3 q4 q5 zz0 zz1 zz2
        have q0 := I15.x.c0
        have q1 := I15.x.c1
        have q2 := I15.y.c0
        have q3 := I15.y.c1
        have q4 := I15.z.c0
        have q5 := I15.z.c1
        have zz0 : w3.heap.size < w15.heap.size := World.block_lt_of_cell? _ _ q0
        have zz1 : w3.heap.size + 1 < w15.heap.size := World.block_lt_of_cell? _ _ q2
        have zz2 : w3.heap.size + 1 + 1 < w15.heap.size := World.block_lt_of_cell? _ _ q4
        clear I14 hw15
        by_cases hn : n < 1000000000000
        · have hn1 : decide (1000000000000 ≤ n) = false := decide_eq_false (by omega)
          have l2 : decide (0 < cmpT (n + 1) 1 a b) = true := decide_eq_true (L2.out hn)
          clear L2
          go_wp2_with fail
          refine (cmp_any (n + 1) 1 a b (by omega) (by omega) (by omega) (by omega) (by omega) (by omega) (by omega) (by omega) _).mono ?_
          rintro e w16 ⟨rfl, hw16⟩
          have I16 := I15.more hw16
          clear I15 hw16
          clear q0 q1 q2 q3 q4 q5 zz0 zz1 zz2
          go_wp2_with fail
          refine (sane_any _ (hok.below I16.below)).mono ?_
          rintro e w20 ⟨rfl, hw20⟩
          have hB20 : Below w.heap.size w w20 := (I16.more hw20).below
          clear I16 hw20
          go_wp2_with fail
          go_ret
          exact ⟨rfl, hB20⟩
        · have hn1 : decide (1000000000000 ≤ n) = true := decide_eq_true (by omega)
          clear L2
          clear q0 q1 q2 q3 q4 q5 zz0 zz1 zz2
          go_wp2_with fail
          refine (sane_any _ (hok.below I15.below)).mono ?_
          rintro e w20 ⟨rfl, hw20⟩
          have hB20 : Below w.heap.size w w20 := (I15.more hw20).below
          clear I15 hw20
          go_wp2_with fail
          go_ret
          exact ⟨rfl, hB20⟩
end Go.Proofs.YtpdkmmiedkkpeaaDoor
