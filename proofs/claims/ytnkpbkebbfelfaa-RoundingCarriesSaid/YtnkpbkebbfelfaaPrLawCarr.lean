/-
  RoundingCarries: the walk: six amounts are paid in steps of the unit, the rest is carried; what was paid and what is left add up to what was owed. The answer is true.
-/
import Derived.Test.YtnkpbkebbfelfaaPrLawMono
import Derived.Test.YtnkpbkebbfelfaaPrLawRounds
import Derived.Test.YtnkpbkebbfelfaaPrCarr
import Derived.Deep.DeepCutAuto
namespace Go.Proofs.Ytnkpbkebbfelfaa
open Go Go.RowKit Go.Lib Go.Proofs.Ytnkpbkebbfelfaa.Tp
set_option linter.unusedVariables false

theorem step_fr {p q : Int} (hp : p ∈ ([1, 5, 1, 50, 1, 3, 100, 7] : List Int)) (hq : q ∈ ([100, 1, 20, 100, 2, 1000, 1] : List Int)) : ∃ U, 0 < U ∧ U ≤ 2100000 ∧ Fr U (newT p q).1 (newT p q).2.1 := by
  have e := fr_step (p := p) hq
  have hp' : 1 ≤ p ∧ p ≤ 100 := by simp only [List.mem_cons, List.not_mem_nil, or_false] at hp; omega
  have hb : 0 < p * (21000 / q) ∧ p * (21000 / q) ≤ 2100000 := by
    simp only [List.mem_cons, List.not_mem_nil, or_false] at hq
    rcases hq with rfl | rfl | rfl | rfl | rfl | rfl | rfl <;> simp <;> omega
  refine ⟨p * (21000 / q), hb.1, hb.2, ?_⟩
  rw [e]
  exact Fr.mk' (by omega) (by omega)
theorem made_fr {v q : Int} (hq : q ∈ ([3, 7, 100, 1] : List Int)) (h0 : -1000 ≤ v) (h1 : v ≤ 1000) : ∃ N, -21000000 ≤ N ∧ N ≤ 21000000 ∧ Fr N (newT v q).1 (newT v q).2.1 := by
  have e := fr_made (v := v) hq
  have hb : -21000000 ≤ v * (21000 / q) ∧ v * (21000 / q) ≤ 21000000 := by
    simp only [List.mem_cons, List.not_mem_nil, or_false] at hq
    rcases hq with rfl | rfl | rfl | rfl <;> simp <;> omega
  refine ⟨v * (21000 / q), hb.1, hb.2, ?_⟩
  rw [e]
  exact Fr.mk' (by omega) (by omega)
theorem cellA {u : World} {q : Addr} {v : Value} {o : Obj} (h : u.cell? q = some v) : (u.alloc o).cell? q = some v := cell_low h (Below.alloc (Below.refl _ _) (Nat.le_refl _) o)
theorem box1 {u v : World} {t : TypeId} (h : Below (u.alloc (.cells #[.int .i64 0, .int .i64 0] t)).heap.size (u.alloc (.cells #[.int .i64 0, .int .i64 0] t)) v) : Tp.Res v u.heap.size 0 0 := (Tp.Res.new u 0 0 t).below h
theorem box2 {u v : World} {t : TypeId} {o : Obj} (h : Below ((u.alloc (.cells #[.int .i64 0, .int .i64 0] t)).alloc o).heap.size ((u.alloc (.cells #[.int .i64 0, .int .i64 0] t)).alloc o) v) : Tp.Res v u.heap.size 0 0 := ((Tp.Res.new u 0 0 t).alloc o).below h
theorem box3 {u v : World} {t : TypeId} {o : Obj} (h : Below ((u.alloc o).alloc (.cells #[.int .i64 0, .int .i64 0] t)).heap.size ((u.alloc o).alloc (.cells #[.int .i64 0, .int .i64 0] t)) v) : Tp.Res v (u.heap.size + 1) 0 0 := by
  have r := (Tp.Res.new (u.alloc o) 0 0 t).below h
  have e : (u.alloc o).heap.size = u.heap.size + 1 := by simp
  rw [e] at r
  exact r
theorem box1d {u v : World} {t : TypeId} (h : Below (u.alloc (.cells #[.int .i64 0, .int .i64 0] t)).drew.heap.size (u.alloc (.cells #[.int .i64 0, .int .i64 0] t)).drew v) : Tp.Res v u.heap.size 0 0 := (Tp.Res.new u 0 0 t).drew'.below h
theorem box2d {u v : World} {t : TypeId} {o : Obj} (h : Below ((u.alloc (.cells #[.int .i64 0, .int .i64 0] t)).alloc o).drew.heap.size ((u.alloc (.cells #[.int .i64 0, .int .i64 0] t)).alloc o).drew v) : Tp.Res v u.heap.size 0 0 := ((Tp.Res.new u 0 0 t).alloc o).drew'.below h
theorem box3d {u v : World} {t : TypeId} {o : Obj} (h : Below ((u.alloc o).alloc (.cells #[.int .i64 0, .int .i64 0] t)).drew.heap.size ((u.alloc o).alloc (.cells #[.int .i64 0, .int .i64 0] t)).drew v) : Tp.Res v (u.heap.size + 1) 0 0 := by
  have r := (Tp.Res.new (u.alloc o) 0 0 t).drew'.below h
  have e : (u.alloc o).heap.size = u.heap.size + 1 := by simp
  rw [e] at r
  exact r
theorem cellD {u : World} {q : Addr} {v : Value} (h : u.cell? q = some v) : u.drew.cell? q = some v := h
theorem cellS {u : World} {q p : Addr} {v x : Value} (h : u.cell? q = some v) (hne : p.block ≠ q.block) : (u.setCell p x).cell? q = some v :=
  (World.cell?_of_block (Below.heap_setCell u p x q.block (fun e => hne e.symm))).trans h
/-- What the loop keeps: the tape, and the four fractions in their places. -/
structure CarI (w : World) (s : Nat) (u1 u2 r1 r2 p1 p2 o1 o2 : Int) (wr : World) : Prop where
  kept : Kept w w.heap.size wr
  lt : w.heap.size < s
  u : Res wr s u1 u2
  r : Res wr (s + 1) r1 r2
  p : Res wr (s + 1 + 1) p1 p2
  o : Res wr (s + 1 + 1 + 1) o1 o2
theorem CarI.only {w : World} {s : Nat} {u1 u2 r1 r2 p1 p2 o1 o2 : Int} {u v : World} (h : CarI w s u1 u2 r1 r2 p1 p2 o1 o2 u) (hT : TapeAt w.heap.size v) (hO : Only w.heap.size u v) : CarI w s u1 u2 r1 r2 p1 p2 o1 o2 v :=
  ⟨h.kept.only hT hO, h.lt, h.u.only (by have := h.lt; omega) hO, h.r.only (by have := h.lt; omega) hO, h.p.only (by have := h.lt; omega) hO, h.o.only (by have := h.lt; omega) hO⟩
theorem CarI.more {w : World} {s : Nat} {u1 u2 r1 r2 p1 p2 o1 o2 : Int} {u v : World} (h : CarI w s u1 u2 r1 r2 p1 p2 o1 o2 u) (hB : Below u.heap.size u v) : CarI w s u1 u2 r1 r2 p1 p2 o1 o2 v :=
  ⟨h.kept.more hB, h.lt, h.u.below hB, h.r.below hB, h.p.below hB, h.o.below hB⟩
theorem CarI.alloc {w : World} {s : Nat} {u1 u2 r1 r2 p1 p2 o1 o2 : Int} {u : World} (h : CarI w s u1 u2 r1 r2 p1 p2 o1 o2 u) (o : Obj) : CarI w s u1 u2 r1 r2 p1 p2 o1 o2 (u.alloc o) := h.more (Below.alloc (Below.refl _ _) (Nat.le_refl _) o)
theorem CarI.drew {w : World} {s : Nat} {u1 u2 r1 r2 p1 p2 o1 o2 : Int} {u : World} (h : CarI w s u1 u2 r1 r2 p1 p2 o1 o2 u) : CarI w s u1 u2 r1 r2 p1 p2 o1 o2 u.drew := ⟨h.kept.drew', h.lt, h.u.drew', h.r.drew', h.p.drew', h.o.drew'⟩

theorem CarI.far {w : World} {s : Nat} {u1 u2 r1 r2 p1 p2 o1 o2 : Int} {u : World} {q : Addr} (h : CarI w s u1 u2 r1 r2 p1 p2 o1 o2 u) (hp : s + 1 + 1 + 1 < q.block) (v : Value) : CarI w s u1 u2 r1 r2 p1 p2 o1 o2 (u.setCell q v) :=
  ⟨h.kept.far' (by have := h.lt; omega) v, h.lt, h.u.far' (by omega) v, h.r.far' (by omega) v, h.p.far' (by omega) v, h.o.far' (by omega) v⟩
theorem Tp.Res.put2 {u : World} {s : Nat} {x y : Int} (h : Tp.Res u s x y) (a b : Int) : Tp.Res ((u.setCell ⟨s, 0, none⟩ (.int .i64 a)).setCell ⟨s, 1, none⟩ (.int .i64 b)) s a b := by
  obtain ⟨r0, r1, r2, r3⟩ := h
  exact ⟨by go_simp, by go_simp, by go_simp, by go_simp⟩
theorem Tp.Res.off2 {u : World} {s t : Nat} {x y : Int} (h : Tp.Res u s x y) (hn : t ≠ s) (a b : Int) : Tp.Res ((u.setCell ⟨t, 0, none⟩ (.int .i64 a)).setCell ⟨t, 1, none⟩ (.int .i64 b)) s x y := (h.far' (p := ⟨t, 0, none⟩) hn _).far' (p := ⟨t, 1, none⟩) hn _
theorem Tp.Kept.off2 {w u : World} {b t : Nat} (h : Kept w b u) (hn : b < t) (x y : Int) : Kept w b ((u.setCell ⟨t, 0, none⟩ (.int .i64 x)).setCell ⟨t, 1, none⟩ (.int .i64 y)) := (Tp.Kept.far' h (p := ⟨t, 0, none⟩) hn _).far' (p := ⟨t, 1, none⟩) hn _
theorem CarI.putR {w : World} {s : Nat} {u1 u2 r1 r2 p1 p2 o1 o2 : Int} {u : World} (h : CarI w s u1 u2 r1 r2 p1 p2 o1 o2 u) (x y : Int) : CarI w s u1 u2 x y p1 p2 o1 o2 ((u.setCell ⟨s + 1, 0, none⟩ (.int .i64 x)).setCell ⟨s + 1, 1, none⟩ (.int .i64 y)) :=
  ⟨h.kept.off2 (by have := h.lt; omega) _ _, h.lt, h.u.off2 (by omega) _ _, h.r.put2 _ _, h.p.off2 (by omega) _ _, h.o.off2 (by omega) _ _⟩
theorem CarI.putP {w : World} {s : Nat} {u1 u2 r1 r2 p1 p2 o1 o2 : Int} {u : World} (h : CarI w s u1 u2 r1 r2 p1 p2 o1 o2 u) (x y : Int) : CarI w s u1 u2 r1 r2 x y o1 o2 ((u.setCell ⟨s + 1 + 1, 0, none⟩ (.int .i64 x)).setCell ⟨s + 1 + 1, 1, none⟩ (.int .i64 y)) :=
  ⟨h.kept.off2 (by have := h.lt; omega) _ _, h.lt, h.u.off2 (by omega) _ _, h.r.off2 (by omega) _ _, h.p.put2 _ _, h.o.off2 (by omega) _ _⟩
theorem CarI.putO {w : World} {s : Nat} {u1 u2 r1 r2 p1 p2 o1 o2 : Int} {u : World} (h : CarI w s u1 u2 r1 r2 p1 p2 o1 o2 u) (x y : Int) : CarI w s u1 u2 r1 r2 p1 p2 x y ((u.setCell ⟨s + 1 + 1 + 1, 0, none⟩ (.int .i64 x)).setCell ⟨s + 1 + 1 + 1, 1, none⟩ (.int .i64 y)) :=
  ⟨h.kept.off2 (by have := h.lt; omega) _ _, h.lt, h.u.off2 (by omega) _ _, h.r.off2 (by omega) _ _, h.p.off2 (by omega) _ _, h.o.put2 _ _⟩
set_option maxRecDepth 100000 in
set_option maxHeartbeats 20000000 in
theorem carr_walk (p : Option Addr) (len cap : Nat) (zs : List Int) (m : Int) (hm0 : -9223372036854775808 ≤ m) (hm1 : m ≤ 9223372036854775807)
    (w : World) (hr : IsRow w p len cap zs) (hl : len ≤ 9223372036854775807) :
    Calls Try.prog 10 #[.slice p len cap, .int .i64 m] w fun e w' => e = .returned (.bool true) ∧ Below w.heap.size w w' := by
  have K0 : Kept w w.heap.size (w.alloc (.cells #[.slice p len cap, .int .i64 0] 53)) := ⟨tape_new hr hl _, boxed1 _ _, Nat.le_refl _⟩
  have HK := Lib.hid K0
  clear hr K0
  go_enter Try.func10, Try.ntmps10
  go_wp2_with (go_at_call 11; refine (gnew_any _ _ _ _).mono ?_; rintro e w' ⟨rfl, rfl⟩)
  refine (step_any w.heap.size _ HK.out.tape).mono ?_
  rintro e w1 ⟨sp, sq, hp, hq, rfl, T3, O3⟩
  have I1 := Lib.hid (HK.out.only T3 O3)
  have L1 := T3.lt
  obtain ⟨U, U0, U1, FU⟩ := step_fr hp hq
  obtain ⟨u1, hu1⟩ : ∃ u1, (newT sp sq).1 = u1 := ⟨_, rfl⟩
  obtain ⟨u2, hu2⟩ : ∃ u2, (newT sp sq).2.1 = u2 := ⟨_, rfl⟩
  rw [hu1, hu2] at FU
  rw [hu1, hu2]
  have HFU := Lib.hid FU
  clear HK T3 O3 hp hq hu1 hu2 FU
  have bU := vld_bd HFU.out.vld
  have tm0 := modT_lo m 7 (by omega)
  have tm1 := modT_hi m 7 (by omega)
  obtain ⟨k, hk⟩ : ∃ k, k = modT m 7 := ⟨_, rfl⟩
  rw [← hk] at tm0 tm1
  have hM := fun w => mod_any m 7 hm0 hm1 (by omega) (by omega) w
  rw [← hk] at hM
  have HM := Lib.hid hM
  have wm : Hid (witB k 0 6 = true) := Lib.hid (wit_yes tm0 (by omega))
  clear hk hM
  have F0 : Fr 0 0 1 := ⟨by decide⟩
  have HF0 := Lib.hid F0
  clear F0
  have hI0 : CarI w w1.heap.size u1 u2 0 1 0 1 0 1 ((((w1.alloc (.cells #[.int .i64 u1, .int .i64 u2] 35)).alloc (.cells #[.int .i64 0, .int .i64 1] 35)).alloc (.cells #[.int .i64 0, .int .i64 1] 35)).alloc (.cells #[.int .i64 0, .int .i64 1] 35)) :=
    ⟨(((I1.out.alloc _).alloc _).alloc _).alloc _, L1, ⟨by go_simp, by go_simp, by go_simp, by go_simp⟩, ⟨by go_simp, by go_simp, by go_simp, by go_simp⟩, ⟨by go_simp, by go_simp, by go_simp, by go_simp⟩, ⟨by go_simp, by go_simp, by go_simp, by go_simp⟩⟩
  have HI := Lib.hid hI0
  clear hI0 I1
  go_wp2_with fail
  go_loopw [10] (fun i wr => ∃ j : Nat, j ≤ 6 ∧ i = .int .i64 j ∧ ∃ r1 r2 p1 p2 o1 o2 R P O : Int, Fr R r1 r2 ∧ Fr P p1 p2 ∧ Fr O o1 o2 ∧ -U < R ∧ R < U ∧ -(21000000 * j) ≤ O ∧ O ≤ 21000000 * j ∧ P + R = O ∧ CarI w w1.heap.size u1 u2 r1 r2 p1 p2 o1 o2 wr) (fun i _ => (6 - RowKit.intOf i).toNat)
  case atStart => exact ⟨0, by omega, rfl, 0, 1, 0, 1, 0, 1, 0, 0, 0, HF0.out, HF0.out, HF0.out, by omega, by omega, by omega, by omega, by omega, HI.out⟩
  case round =>
    clear HI
    obtain ⟨j, hj, rfl, r1, r2, p1, p2, o1, o2, R, P, O, fr, fp, fo, b0, b1, b2, b3, b4, hI⟩ := hrel
    have I0 := Lib.hid hI
    have HR := Lib.hid fr
    have HP := Lib.hid fp
    have HO := Lib.hid fo
    have bR := vld_bd fr.vld
    have bP := vld_bd fp.vld
    have bO := vld_bd fo.vld
    clear hI fr fp fo
    by_cases h : j < 6
    · go_wp2_with fail
      refine (next_any w.heap.size 2001 (by omega) (by omega) _ I0.out.kept.tape).mono ?_
      rintro e2 w2 ⟨v2, rfl, x2, y2, T2, O2⟩
      have I2 := Lib.hid (I0.out.only T2 O2)
      clear T2 O2 I0
      go_wp2_with fail
      refine (pick_new w.heap.size [3, 7, 100, 1] (by simp) (by simp) _ _ _ (by first | rfl | simp) I2.out.kept.tape).mono ?_
      rintro e3 w3 ⟨q, rfl, mq, T3, O3⟩
      have I3 := Lib.hid (I2.out.only T3 O3)
      obtain ⟨N, N0, N1, FN⟩ := made_fr (v := v2 - 1000) mq (by omega) (by omega)
      have hq : 1 ≤ q ∧ q ≤ 100 := by simp only [List.mem_cons, List.not_mem_nil, or_false] at mq; omega
      obtain ⟨n1, hn1⟩ : ∃ n1, (newT (v2 - 1000) q).1 = n1 := ⟨_, rfl⟩
      obtain ⟨n2, hn2⟩ : ∃ n2, (newT (v2 - 1000) q).2.1 = n2 := ⟨_, rfl⟩
      obtain ⟨n3, hn3⟩ : ∃ n3, (newT (v2 - 1000) q).2.2 = n3 := ⟨_, rfl⟩
      rw [hn1, hn2] at FN
      have HN := Lib.hid FN
      have bN := vld_bd FN.vld
      have q1 := fun w => rnew_any (v2 - 1000) q (by omega) (by omega) (by omega) (by omega) w
      simp only [hn1, hn2, hn3] at q1
      have Q1 := Lib.hid q1
      clear T3 O3 I2 mq FN q1 hn1 hn2 hn3
      go_wp2_with fail
      refine (Q1.out _).mono ?_
      rintro e4 w4 ⟨rfl, hw4⟩
      have I4 := Lib.hid (I3.out.more hw4)
      clear hw4 I3
      have I5 := Lib.hid (I4.out.alloc (.cells #[.int .i64 n1, .int .i64 n2] 35))
      have R5 := Lib.hid (Tp.Res.new w4 n1 n2 35)
      have L4 := I4.out.kept.tape.lt
      have Ln : w1.heap.size + 1 + 1 + 1 < w4.heap.size := World.block_lt_of_cell? _ _ I4.out.o.c0
      clear I4
      go_wp2_with fail
      obtain ⟨X, x1, x2, y1, y2, hc, fx, fy, b5, b6⟩ := fr_carry HR.out HN.out HFU.out U0 (by omega) wm.out (by omega) (by omega)
      have q2 := fun w => carry_any r1 r2 n1 n2 u1 u2 k (by omega) (by omega) (by omega) (by omega) (by omega) (by omega) (by omega) (by omega) (by omega) (by omega) (by omega) (by omega) (by omega) (by omega) w
      simp only [hc] at q2
      have Q2 := Lib.hid q2
      have HX := Lib.hid fx
      have HY := Lib.hid fy
      have bX := vld_bd fx.vld
      have bY := vld_bd fy.vld
      clear q2 hc fx fy Q1
      obtain ⟨uu0, uu1, _, _⟩ := I5.out.u
      obtain ⟨ur0, ur1, _, _⟩ := I5.out.r
      obtain ⟨un0, un1, _, _⟩ := R5.out
      generalize (w4.alloc (.cells #[.int .i64 n1, .int .i64 n2] 35)) = w5 at *
      generalize w4.heap.size = nb at *
      have ln : nb < w5.heap.size := World.block_lt_of_cell? _ _ un0
      have ls : w1.heap.size + 1 + 1 + 1 < w5.heap.size := World.block_lt_of_cell? _ _ I5.out.o.c0
      have ls1 : w1.heap.size + 1 < w5.heap.size := by omega
      have ls0 : w1.heap.size < w5.heap.size := by omega
      have HI5 := I5.out
      have HN5 := R5.out
      have HRI := I5.out.drew
      have HRN := R5.out.drew'
      go_upto_region 8 with fail
      go_cut [13, 14, 15] (fun s13 s14 s15 wx => ∃ pb rb : Nat, s13 = .pointer (some ⟨pb, 0, none⟩) ∧ s14 = .pointer (some ⟨rb, 0, none⟩) ∧ s15 = .int .i64 0 ∧ w1.heap.size + 1 + 1 + 1 < pb ∧ w1.heap.size + 1 + 1 + 1 < rb ∧ Hid (Tp.Res wx pb x1 x2) ∧ Hid (Tp.Res wx rb y1 y2) ∧ Hid (CarI w w1.heap.size u1 u2 r1 r2 p1 p2 o1 o2 wx) ∧ Hid (Tp.Res wx nb n1 n2))
      case first =>
        go_region_held3 (fun w' => w'.cell? ⟨w1.heap.size, 0, none⟩ = some (.int .i64 u1) ∧ w'.cell? ⟨w1.heap.size, 1, none⟩ = some (.int .i64 u2) ∧ w'.cell? ⟨w1.heap.size + 1, 0, none⟩ = some (.int .i64 r1) ∧ w'.cell? ⟨w1.heap.size + 1, 1, none⟩ = some (.int .i64 r2) ∧ w'.cell? ⟨nb, 0, none⟩ = some (.int .i64 n1) ∧ w'.cell? ⟨nb, 1, none⟩ = some (.int .i64 n2) ∧ CarI w w1.heap.size u1 u2 r1 r2 p1 p2 o1 o2 w' ∧ Tp.Res w' nb n1 n2) (first | (go_split_ands; exact ⟨(by repeat' (first | (with_reducible assumption) | (with_reducible apply cellA) | (with_reducible apply cellD) | (with_reducible refine cellS ?_ ?_; rotate_left; focus (dsimp only; omega)))), (by repeat' (first | (with_reducible assumption) | (with_reducible apply cellA) | (with_reducible apply cellD) | (with_reducible refine cellS ?_ ?_; rotate_left; focus (dsimp only; omega)))), (by repeat' (first | (with_reducible assumption) | (with_reducible apply cellA) | (with_reducible apply cellD) | (with_reducible refine cellS ?_ ?_; rotate_left; focus (dsimp only; omega)))), (by repeat' (first | (with_reducible assumption) | (with_reducible apply cellA) | (with_reducible apply cellD) | (with_reducible refine cellS ?_ ?_; rotate_left; focus (dsimp only; omega)))), (by repeat' (first | (with_reducible assumption) | (with_reducible apply cellA) | (with_reducible apply cellD) | (with_reducible refine cellS ?_ ?_; rotate_left; focus (dsimp only; omega)))), (by repeat' (first | (with_reducible assumption) | (with_reducible apply cellA) | (with_reducible apply cellD) | (with_reducible refine cellS ?_ ?_; rotate_left; focus (dsimp only; omega)))), (by repeat' (first | (with_reducible assumption) | (with_reducible apply CarI.alloc) | (with_reducible apply CarI.drew) | (with_reducible refine CarI.far ?_ ?_ _; rotate_left; focus (dsimp only; omega)))), (by repeat' (first | (with_reducible assumption) | (with_reducible apply Tp.Res.alloc) | (with_reducible apply Tp.Res.drew') | (with_reducible refine Tp.Res.far' ?_ ?_ _; rotate_left; focus (dsimp only; omega))))⟩)) (first | (go_at_call 12; go_split_ands; refine (HM.out _).mono ?_; rintro e wv ⟨rfl, rfl⟩) | (go_at_call 32; go_split_ands; refine (Q2.out _).mono ?_; rintro e wv ⟨rfl, hwv⟩; (have k0 := cell_low (p := ⟨w1.heap.size, 0, none⟩) (v := .int .i64 u1) (by assumption) hwv); (have k1 := cell_low (p := ⟨w1.heap.size, 1, none⟩) (v := .int .i64 u2) (by assumption) hwv); (have k2 := cell_low (p := ⟨w1.heap.size + 1, 0, none⟩) (v := .int .i64 r1) (by assumption) hwv); (have k3 := cell_low (p := ⟨w1.heap.size + 1, 1, none⟩) (v := .int .i64 r2) (by assumption) hwv); (have k4 := cell_low (p := ⟨nb, 0, none⟩) (v := .int .i64 n1) (by assumption) hwv); (have k5 := cell_low (p := ⟨nb, 1, none⟩) (v := .int .i64 n2) (by assumption) hwv); (have kI : CarI w w1.heap.size u1 u2 r1 r2 p1 p2 o1 o2 wv := CarI.more (by assumption) hwv); (have kN : Tp.Res wv nb n1 n2 := Tp.Res.below (by assumption) hwv); (have zv : w5.heap.size ≤ wv.heap.size := by (have := hwv.size; simp at this; omega)); (try (have kb : Tp.Res wv w5.heap.size 0 0 := (by with_reducible exact box1d hwv); obtain ⟨kb0, kb1, kb2, kb3⟩ := kb; have zb : w5.heap.size < wv.heap.size := World.block_lt_of_cell? _ _ kb0)); (try (have kb : Tp.Res wv w5.heap.size 0 0 := (by with_reducible exact box2d hwv); obtain ⟨kb0, kb1, kb2, kb3⟩ := kb; have zb : w5.heap.size < wv.heap.size := World.block_lt_of_cell? _ _ kb0)); (try (have kc : Tp.Res wv (w5.heap.size + 1) 0 0 := (by with_reducible exact box3d hwv); obtain ⟨kc0, kc1, kc2, kc3⟩ := kc; have zc : w5.heap.size + 1 < wv.heap.size := World.block_lt_of_cell? _ _ kc0))))
        all_goals (go_split_ands; go_wp2_with fail)
        all_goals go_meet
        all_goals refine ⟨_, _, rfl, rfl, rfl, ?_, ?_, Lib.hid ?_, Lib.hid ?_, Lib.hid ?_, Lib.hid ?_⟩
        all_goals first | (show _ < _; omega) | (with_reducible assumption) | (refine ⟨?_, ?_, ?_, ?_⟩ <;> go_simp; done) | (exact (by repeat' (first | (with_reducible assumption) | (with_reducible apply CarI.alloc) | (with_reducible apply CarI.drew) | (with_reducible refine CarI.far ?_ ?_ _; rotate_left; focus (dsimp only; omega))))) | (exact (by repeat' (first | (with_reducible assumption) | (with_reducible apply Tp.Res.alloc) | (with_reducible apply Tp.Res.drew') | (with_reducible refine Tp.Res.far' ?_ ?_ _; rotate_left; focus (dsimp only; omega)))))
      case rest =>
        obtain ⟨pb, rb, rfl, rfl, rfl, lp, lr, hX6, hY6, hI6, hN6⟩ := hcut
        have e3 := fr_less HY.out HFU.out b6
        have e4 := fr_less (fr_neg HFU.out) HY.out b5
        have q3 := fun w => cmp_any y1 y2 u1 u2 (by omega) (by omega) (by omega) (by omega) (by omega) (by omega) (by omega) (by omega) w
        have q4 := fun w => cmp_any (-u1) u2 y1 y2 (by omega) (by omega) (by omega) (by omega) (by omega) (by omega) (by omega) (by omega) w
        simp only [e3] at q3
        simp only [e4] at q4
        have Q3 := Lib.hid q3
        have Q4 := Lib.hid q4
        have FS := Fr.mk' (K := P + X) (by omega) (by omega)
        have FT := Fr.mk' (K := O + N) (by omega) (by omega)
        obtain ⟨s1, hs1⟩ : ∃ s1, (newT (P + X) 21000).1 = s1 := ⟨_, rfl⟩
        obtain ⟨s2, hs2⟩ : ∃ s2, (newT (P + X) 21000).2.1 = s2 := ⟨_, rfl⟩
        obtain ⟨t1, ht1⟩ : ∃ t1, (newT (O + N) 21000).1 = t1 := ⟨_, rfl⟩
        obtain ⟨t2, ht2⟩ : ∃ t2, (newT (O + N) 21000).2.1 = t2 := ⟨_, rfl⟩
        rw [hs1, hs2] at FS
        rw [ht1, ht2] at FT
        have e5 := (fr_add HP.out HX.out).trans FS.eq
        have e6 := (fr_add HO.out HN.out).trans FT.eq
        have q5 := fun w => radd_any p1 p2 x1 x2 (by omega) (by omega) (by omega) (by omega) (by omega) (by omega) (by omega) (by omega) w
        have q6 := fun w => radd_any o1 o2 n1 n2 (by omega) (by omega) (by omega) (by omega) (by omega) (by omega) (by omega) (by omega) w
        simp only [e5] at q5
        simp only [e6] at q6
        have Q5 := Lib.hid q5
        have Q6 := Lib.hid q6
        have HS := Lib.hid FS
        have HT := Lib.hid FT
        clear e3 e4 e5 e6 q3 q4 q5 q6 FS FT hs1 hs2 ht1 ht2 HI5 HN5 HRI HRN uu0 uu1 ur0 ur1 un0 un1 Q2 I5 R5
        obtain ⟨uy0, uy1, _, _⟩ := hY6.out
        obtain ⟨uu0, uu1, _, _⟩ := hI6.out.u
        go_wp2_with fail
        refine (Q3.out _).mono ?_
        rintro e6 w6 ⟨rfl, hw6⟩
        have hX7 := Lib.hid (hX6.out.below hw6)
        have hY7 := Lib.hid (hY6.out.below hw6)
        have hI7 := Lib.hid (hI6.out.more hw6)
        have hN7 := Lib.hid (hN6.out.below hw6)
        clear uy0 uy1 uu0 uu1 hX6 hY6 hI6 hN6 hw6
        obtain ⟨uy0, uy1, _, _⟩ := hY7.out
        obtain ⟨uu0, uu1, _, _⟩ := hI7.out.u
        go_wp2_with fail
        refine (Q4.out _).mono ?_
        rintro e7 w7 ⟨rfl, hw7⟩
        have hX8 := Lib.hid (hX7.out.below hw7)
        have hY8 := Lib.hid (hY7.out.below hw7)
        have hI8 := Lib.hid (hI7.out.more hw7)
        have hN8 := Lib.hid (hN7.out.below hw7)
        clear uy0 uy1 uu0 uu1 hX7 hY7 hI7 hN7 hw7
        obtain ⟨uy0, uy1, _, _⟩ := hY8.out
        obtain ⟨ux0, ux1, _, _⟩ := hX8.out
        obtain ⟨ur0, ur1, ur2, ur3⟩ := hI8.out.r
        obtain ⟨up0, up1, _, _⟩ := hI8.out.p
        go_wp2_with fail
        have hI9 := Lib.hid (hI8.out.putR y1 y2)
        have hN9 := Lib.hid (hN8.out.off2 (t := w1.heap.size + 1) (by omega) y1 y2)
        clear uy0 uy1 ux0 ux1 ur0 ur1 ur2 ur3 up0 up1 hX8 hY8 hI8 hN8
        refine (Q5.out _).mono ?_
        rintro e8 w8 ⟨rfl, hw8⟩
        have hI10 := Lib.hid (hI9.out.more hw8)
        have hN10 := Lib.hid (hN9.out.below hw8)
        clear hI9 hN9 hw8
        obtain ⟨up0, up1, up2, up3⟩ := hI10.out.p
        obtain ⟨uo0, uo1, _, _⟩ := hI10.out.o
        obtain ⟨un0, un1, _, _⟩ := hN10.out
        go_wp2_with fail
        have hI11 := Lib.hid (hI10.out.putP s1 s2)
        clear up0 up1 up2 up3 uo0 uo1 un0 un1 hI10 hN10
        refine (Q6.out _).mono ?_
        rintro e9 w9 ⟨rfl, hw9⟩
        have hI12 := Lib.hid (hI11.out.more hw9)
        clear hI11 hw9
        obtain ⟨uo0, uo1, uo2, uo3⟩ := hI12.out.o
        go_wp2_with fail
        clear uo0 uo1 uo2 uo3
        exact ⟨⟨j + 1, by omega, by go_num, y1, y2, s1, s2, t1, t2, R + N - X, P + X, O + N, HY.out, HS.out, HT.out, b5, b6, by omega, by omega, by omega, hI12.out.putO t1 t2⟩, by simp [RowKit.intOf]; omega⟩
    · obtain rfl : j = 6 := by omega
      have e1 : addT p1 p2 r1 r2 = (o1, o2, 0) := by rw [fr_add HP.out HR.out, b4]; exact HO.out.eq
      have q1 := fun w => radd_any p1 p2 r1 r2 (by omega) (by omega) (by omega) (by omega) (by omega) (by omega) (by omega) (by omega) w
      simp only [e1] at q1
      have Q1 := Lib.hid q1
      clear e1 q1
      obtain ⟨up0, up1, _, _⟩ := I0.out.p
      obtain ⟨ur0, ur1, _, _⟩ := I0.out.r
      go_wp2_with fail
      refine (Q1.out _).mono ?_
      rintro e1 wa ⟨rfl, hwa⟩
      have hI1 := Lib.hid (I0.out.more hwa)
      have HB := hI1.out.kept.below
      obtain ⟨uo0, uo1, _, _⟩ := hI1.out.o
      have lz : w1.heap.size + 1 + 1 + 1 < wa.heap.size := World.block_lt_of_cell? _ _ uo0
      clear I0 up0 up1 ur0 ur1 hwa
      go_wp2_with (go_at_call 17; refine (sane_any _).mono ?_; rintro e wv ⟨rfl, hwv⟩)
      go_ret
      exact ⟨rfl, (HB.alloc HB.size _).trans (hwv.mono (by have := HB.size; simp; omega))⟩
end Go.Proofs.Ytnkpbkebbfelfaa
