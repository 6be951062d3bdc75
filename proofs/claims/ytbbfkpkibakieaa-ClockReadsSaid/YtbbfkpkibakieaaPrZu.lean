/-
  Layer 4 (clock): the reference: contracts of segment and first. Conditions: the zone is valid and its changes lie in their cells.
-/
import Derived.Test.YtbbfkpkibakieaaPrZt
namespace Go.Proofs.Ytbbfkpkibakieaa
open Go Go.RowKit Go.Lib

theorem ret3I {a b c d e f : Int} (h : a = b) (h' : c = d) (h'' : e = f) : Ending.returned (.tuple #[.int .i64 a, .int .i64 c, .int .i64 e]) = .returned (.tuple #[.int .i64 b, .int .i64 d, .int .i64 f]) := by rw [h, h', h'']
set_option maxRecDepth 100000 in
set_option maxHeartbeats 2000000 in
theorem seg_00 (off : Int) (a : Option Addr) (n cap : Nat) (cs : List (Int × Int)) (hn : n = 0) (w : World) (hr : ChRow w w.heap.size a n cs) :
    Calls Try.prog 40 #[.agg #[.int .i64 off, .slice a n cap], .int .i64 0] w (SegR off cs 0 w) := by
  have R0 := RZ.new (off := off) (cap := cap) hr
  have z0 := R0.box.c0
  have z1 := R0.box.c1
  have hl := hr.1
  have E : Hid (sTo cs 0 = END) := Lib.hid (by unfold sTo; rw [if_neg (by omega)])
  clear hl
  subst hn
  go_enter Try.func40, Try.ntmps40
  go_wp2
  go_quiet (fail)
  go_wp2
  go_ret3
  exact ⟨ret3I rfl (by rw [E.out]; rfl) rfl, (R0.drewN _).below⟩
set_option maxRecDepth 100000 in
set_option maxHeartbeats 2000000 in
theorem seg_0p (off : Int) (a : Option Addr) (n cap : Nat) (cs : List (Int × Int)) (hn : 0 < n) (hv : ∀ c ∈ cs, 0 ≤ c.1 ∧ c.1 ≤ 120968639) (w : World) (hr : ChRow w w.heap.size a n cs) :
    Calls Try.prog 40 #[.agg #[.int .i64 off, .slice a n cap], .int .i64 0] w (SegR off cs 0 w) := by
  have R0 := RZ.new (off := off) (cap := cap) hr
  have z0 := R0.box.c0
  have z1 := R0.box.c1
  have hl := hr.1
  obtain ⟨x, rfl⟩ := R0.cells.2.1 hn
  have hk : 0 < cs.length := by omega
  obtain ⟨c0, c1⟩ := R0.cells.2.2 x rfl 0 hk
  have E : Hid (sTo cs 0 = cs[0].1) := Lib.hid (by unfold sTo; rw [if_pos hk]; simp [List.getD, hk])
  obtain ⟨v0, v1⟩ := hv _ (List.getElem_mem hk)
  generalize cs[0] = c at *
  have ex : x.add (0 * 2) = x := by simp [Addr.add]
  rw [ex] at c0 c1
  clear hl hv ex
  go_enter Try.func40, Try.ntmps40
  go_wp2
  go_quiet (fail)
  go_wp2
  go_ret3
  exact ⟨ret3I rfl (by rw [E.out]) rfl, (R0.drewN _).below⟩
set_option maxRecDepth 100000 in
set_option maxHeartbeats 2000000 in
theorem seg_s0 (off : Int) (a : Option Addr) (n cap : Nat) (cs : List (Int × Int)) (j : Nat) (hn : n = j + 1) (hb : n ≤ 64) (w : World) (hr : ChRow w w.heap.size a n cs) :
    Calls Try.prog 40 #[.agg #[.int .i64 off, .slice a n cap], .int .i64 ((j : Int) + 1)] w (SegR off cs (j + 1) w) := by
  have R0 := RZ.new (off := off) (cap := cap) hr
  have z0 := R0.box.c0
  have z1 := R0.box.c1
  have hl := hr.1
  obtain ⟨x, rfl⟩ := R0.cells.2.1 (by omega)
  have hj : j < cs.length := by omega
  obtain ⟨c0, c1⟩ := R0.cells.2.2 x rfl j hj
  have F1 : Hid (sFrom 0 cs (j + 1) = cs[j].1) := Lib.hid (by simp [sFrom, List.getD, hj])
  have F2 : Hid (sOff off cs (j + 1) = cs[j].2) := Lib.hid (by simp [sOff, List.getD, hj])
  have g1 : IntKind.i64.wrap ((j : Int) + 1 - 1) = (j : Int) := by rw [show (j : Int) + 1 - 1 = j by omega]; exact IntWalk.i64_in _ (by omega)
  have g2 : (0 : Int) ≤ (j : Int) := by omega
  have g3 : ((j : Int)).toNat = j := by omega
  have g4 : (j : Int) < (n : Int) := by omega
  have g5 : (0 : Int) < (j : Int) + 1 := by omega
  have E : Hid (sTo cs (j + 1) = END) := Lib.hid (by unfold sTo; rw [if_neg (by omega)])
  generalize cs[j] = c at *
  have hd : decide ((j : Int) + 1 < (n : Int)) = false := by simp; omega
  clear hl hn
  go_enter Try.func40, Try.ntmps40
  go_wp2
  go_quiet (fail)
  go_wp2
  go_quiet (fail)
  clear g1 g2 g3 g4 g5
  go_wp2
  go_ret3
  exact ⟨ret3I F1.out.symm (by rw [E.out]; rfl) F2.out.symm, (R0.drewN _).below⟩
set_option maxRecDepth 100000 in
set_option maxHeartbeats 2000000 in
theorem seg_sp (off : Int) (a : Option Addr) (n cap : Nat) (cs : List (Int × Int)) (j : Nat) (hn : j + 1 < n) (hb : n ≤ 64) (hv : ∀ c ∈ cs, 0 ≤ c.1 ∧ c.1 ≤ 120968639) (w : World) (hr : ChRow w w.heap.size a n cs) :
    Calls Try.prog 40 #[.agg #[.int .i64 off, .slice a n cap], .int .i64 ((j : Int) + 1)] w (SegR off cs (j + 1) w) := by
  have R0 := RZ.new (off := off) (cap := cap) hr
  have z0 := R0.box.c0
  have z1 := R0.box.c1
  have hl := hr.1
  obtain ⟨x, rfl⟩ := R0.cells.2.1 (by omega)
  have hj : j < cs.length := by omega
  obtain ⟨c0, c1⟩ := R0.cells.2.2 x rfl j hj
  have F1 : Hid (sFrom 0 cs (j + 1) = cs[j].1) := Lib.hid (by simp [sFrom, List.getD, hj])
  have F2 : Hid (sOff off cs (j + 1) = cs[j].2) := Lib.hid (by simp [sOff, List.getD, hj])
  have g1 : IntKind.i64.wrap ((j : Int) + 1 - 1) = (j : Int) := by rw [show (j : Int) + 1 - 1 = j by omega]; exact IntWalk.i64_in _ (by omega)
  have g2 : (0 : Int) ≤ (j : Int) := by omega
  have g3 : ((j : Int)).toNat = j := by omega
  have g4 : (j : Int) < (n : Int) := by omega
  have g5 : (0 : Int) < (j : Int) + 1 := by omega
  have hj2 : j + 1 < cs.length := by omega
  obtain ⟨d0, d1⟩ := R0.cells.2.2 x rfl (j + 1) hj2
  have E : Hid (sTo cs (j + 1) = cs[j + 1].1) := Lib.hid (by unfold sTo; rw [if_pos hj2]; simp [List.getD, hj2])
  obtain ⟨v0, v1⟩ := hv _ (List.getElem_mem hj2)
  generalize cs[j + 1] = d at *
  generalize cs[j] = c at *
  have hd : (j : Int) + 1 < (n : Int) := by omega
  clear hl hv
  go_enter Try.func40, Try.ntmps40
  go_wp2
  go_quiet (fail)
  go_wp2
  go_quiet (fail)
  clear g1 g2 g3 g4
  go_wp2
  go_ret3
  exact ⟨ret3I F1.out.symm (by rw [E.out]) F2.out.symm, (R0.drewN _).below⟩
end Go.Proofs.Ytbbfkpkibakieaa
