/-
  Several texts in one; what each shows, and its conditions, stand ahead of it. No condition beside theirs.
-/
import Derived.Test.YtmgglcfndhfceaaGreatDoorPrYm
import Derived.Deep.RegionHeld3
import Derived.Lib.LaidTab
import Derived.Test.YtmgglcfndhfceaaGreatDoorCards
import Derived.Test.YtmgglcfndhfceaaGreatDoorTie
import Derived.SevenTiedAt
import Derived.OpenShut
import Derived.ShutString
import Derived.ChangeOld
import Derived.LaidMore
import Derived.SizedLaws
import Derived.Lib.SmallJoins
/- Layer 5 (period): contracts of within, length, before, month, number, Valid, Of, Span, Count. Conditions: the arguments fit their kinds; the table of month lengths reads as the program's text lays it. -/
namespace Go.Proofs.YtmgglcfndhfceaaGreatDoor.Per
open Go Go.RowKit Go.Lib Go.Proofs.YtmgglcfndhfceaaGreatDoor Go.Proofs.YtmgglcfndhfceaaGreatDoor.Cal

set_option maxHeartbeats 400000 in
theorem pwithin_yes (n lo hi : Int) (h0 : lo ≤ n) (h1 : n ≤ hi) (w : World) :
    Calls Tryz.prog 36 #[.int .i64 n, .int .i64 lo, .int .i64 hi] w fun e w' => e = .returned (.bool true) ∧ w = w' := by
  go_enter Tryz.func36, Tryz.ntmps36
  go_wp2
  go_ret
  exact ⟨rfl, rfl⟩
set_option maxHeartbeats 400000 in
theorem pwithin_no (n lo hi : Int) (h : n < lo ∨ hi < n) (w : World) :
    Calls Tryz.prog 36 #[.int .i64 n, .int .i64 lo, .int .i64 hi] w fun e w' => e = .returned (.bool false) ∧ w = w' := by
  by_cases h0 : lo ≤ n
  · have h1 : hi < n := by omega
    have hd : decide (n ≤ hi) = false := decide_eq_false (by omega)
    clear h
    go_enter Tryz.func36, Tryz.ntmps36
    go_wp2
    go_ret
    exact ⟨rfl, rfl⟩
  · have h1 : n < lo := by omega
    clear h h0
    go_enter Tryz.func36, Tryz.ntmps36
    go_wp2
    go_ret
    exact ⟨rfl, rfl⟩

/-- A value, and memory that only grew. -/
def RetV (v : Value) (w : World) (e : Ending) (w' : World) : Prop := e = .returned v ∧ Below w.heap.size w w'
theorem RetV.of {a b : Value} {w w' : World} {e : Ending} (he : e = .returned b) (hb : a = b) (h : Below w.heap.size w w') : RetV a w e w' := by subst hb; exact ⟨he, h⟩
def RetI (n : Int) (w : World) (e : Ending) (w' : World) : Prop := e = .returned (.int .i64 n) ∧ Below w.heap.size w w'
theorem RetI.of {a b : Int} {w w' : World} {e : Ending} (he : e = .returned (.int .i64 b)) (hb : a = b) (h : Below w.heap.size w w') : RetI a w e w' := by subst hb; exact ⟨he, h⟩
/-- A box of two ints. -/
def Box2 (w : World) (b : Nat) (t : TypeId) (x y : Int) : Prop := w.heap[b]? = some (.cells #[.int .i64 x, .int .i64 y] t (0, 0))
theorem Box2.c0 {w : World} {b : Nat} {t : TypeId} {x y : Int} (h : Box2 w b t x y) : w.cell? ⟨b, 0, none⟩ = some (.int .i64 x) := by simp [World.cell?, show w.heap[b]? = _ from h]
theorem Box2.c1 {w : World} {b : Nat} {t : TypeId} {x y : Int} (h : Box2 w b t x y) : w.cell? ⟨b, 1, none⟩ = some (.int .i64 y) := by simp [World.cell?, show w.heap[b]? = _ from h]
theorem Box2.f0 {w : World} {b : Nat} {t : TypeId} {x y : Int} (h : Box2 w b t x y) : w.frozen? ⟨b, 0, none⟩ = false := by simp [World.frozen?, show w.heap[b]? = _ from h]
theorem Box2.f1 {w : World} {b : Nat} {t : TypeId} {x y : Int} (h : Box2 w b t x y) : w.frozen? ⟨b, 1, none⟩ = false := by simp [World.frozen?, show w.heap[b]? = _ from h]
theorem Box2.lt {w : World} {b : Nat} {t : TypeId} {x y : Int} (h : Box2 w b t x y) : b < w.heap.size := (Array.getElem?_eq_some_iff.1 h).1
theorem Box2.new (w : World) (t : TypeId) (x y : Int) : Box2 (w.alloc (.cells #[.int .i64 x, .int .i64 y] t)) w.heap.size t x y := by
  show (w.heap.push _)[w.heap.size]? = _
  exact Array.getElem?_push_size
theorem Box2.step {w w' : World} {b : Nat} {t : TypeId} {x y : Int} (h : Box2 w b t x y) (hb : Below w.heap.size w w') : Box2 w' b t x y := (hb.block b h.lt).trans h
theorem Box2.alloc {w : World} {b : Nat} {t : TypeId} {x y : Int} (h : Box2 w b t x y) (o : Obj) : Box2 (w.alloc o) b t x y := (Below.heap_alloc w o b h.lt).trans h
theorem Box2.drew {w : World} {b : Nat} {t : TypeId} {x y : Int} (h : Box2 w b t x y) : Box2 w.drew b t x y := h
/-- The fields of a range that a call returned. -/
theorem fld0 (x y : Int) (w : World) : (Instr.field 34 (.agg #[.int .i64 x, .int .i64 y]) 0).run Tryz.prog w = .ok (.int .i64 x) w := by kernel_rfl
theorem fld1 (x y : Int) (w : World) : (Instr.field 34 (.agg #[.int .i64 x, .int .i64 y]) 1).run Tryz.prog w = .ok (.int .i64 y) w := by kernel_rfl
theorem belD {w w' : World} (h : Below w.drew.heap.size w.drew w') : Below w.heap.size w w' := (Below.drew (Below.refl _ _)).trans h

set_option maxHeartbeats 400000 in
theorem plen_any (k a : Int) (w : World) :
    Calls Tryz.prog 49 #[.agg #[.int .i64 k, .int .i64 a]] w (RetI (L k) w) := by
  rcases hb : (k == 2) with _ | _
  · have E := Lib.hid (show L k = 7 by unfold L; rw [if_neg (by simpa using hb)])
    go_enter Tryz.func49, Tryz.ntmps49
    go_wp2
    go_ret
    exact RetI.of rfl E.out ((Below.refl _ _).alloc (Nat.le_refl _) _)
  · have E := Lib.hid (show L k = 14 by unfold L; rw [if_pos (by simpa using hb)])
    go_enter Tryz.func49, Tryz.ntmps49
    go_wp2
    go_ret
    exact RetI.of rfl E.out ((Below.refl _ _).alloc (Nat.le_refl _) _)

set_option maxHeartbeats 1000000 in
theorem pbef_any (k a : Int) (a0 : 0 ≤ a) (a1 : a ≤ L k) (w : World) :
    Calls Tryz.prog 50 #[.agg #[.int .i64 k, .int .i64 a]] w (RetI (bef k a) w) := by
  have C := Lib.hid (plen_any k a)
  have E := Lib.hid (show bef k a = (L k - a) % L k from rfl)
  have l0 : 7 ≤ L k := by have := L_bd k; omega
  have l1 : L k ≤ 14 := by have := L_bd k; omega
  generalize L k = l at *
  have hz : ¬ l = 0 := by omega
  have d0 : 0 ≤ l - a := by omega
  have e1 : IntKind.i64.wrap (l - a) = l - a := IntWalk.i64_in _ (by omega)
  have e2 : (l - a).tmod l = (l - a) % l := Int.tmod_eq_emod_of_nonneg d0
  have e3 : IntKind.i64.wrap ((l - a) % l) = (l - a) % l := by
    have := Int.emod_nonneg (l - a) hz
    have := Int.emod_lt_of_pos (l - a) (show 0 < l by omega)
    exact IntWalk.i64_in _ (by omega)
  go_enter Tryz.func50, Tryz.ntmps50
  go_wp2_with fail
  have R0 := Box2.new w 27 k a
  have z0 := R0.c0
  have z1 := R0.c1
  have hB0 : Below w.heap.size w (w.alloc (.cells #[.int .i64 k, .int .i64 a] 27)) := (Below.refl _ _).alloc (Nat.le_refl _) _
  go_region_held3 (fun w' => w'.cell? ⟨w.heap.size, 0, none⟩ = some (.int .i64 k) ∧ w'.cell? ⟨w.heap.size, 1, none⟩ = some (.int .i64 a) ∧ Box2 w' w.heap.size 27 k a ∧ Below w.heap.size w w')
    (first | exact ⟨z0, z1, R0, hB0.drew⟩ | exact ⟨R1.c0, R1.c1, R1, B1⟩)
    (first | (go_at_call 49; go_split_ands; refine (C.out _).mono ?_; rintro e w1 ⟨rfl, hw1⟩; (have R1 : Box2 w1 w.heap.size 27 k a := Box2.step (by assumption) hw1); (have B1 : Below w.heap.size w w1 := Below.trans (by assumption) (hw1.mono (Below.size (by assumption))))))
  go_split_ands
  go_wp2
  go_ret
  exact RetI.of rfl (by rw [E.out]; simp) (by assumption)

set_option maxRecDepth 100000 in
set_option maxHeartbeats 1000000 in
theorem pmonth_any (m : Int) (h0 : 0 ≤ m) (h1 : m ≤ 2759) (w : World) (hl : LgIs w) :
    Calls Tryz.prog 48 #[.int .i64 m] w (RetV (.agg #[.int .i64 (fst m), .int .i64 (fst m + len m - 1)]) w) := by
  have F := fst_le m h0 h1
  obtain ⟨f0, f1, f2, f3⟩ := F
  have C1 := Lib.hid (fun w hl => first_yes m h0 h1 w hl)
  have C2 := Lib.hid (fun w hl => length_int m h0 h1 w hl)
  generalize fst m = f at *
  generalize len m = l at *
  have hl1 : LgIs (w.alloc (.cells #[.int .i64 0, .int .i64 0] 34)) := hl.below ((Below.refl _ _).alloc (Nat.le_refl _) _)
  go_enter Tryz.func48, Tryz.ntmps48
  go_wp2_with (first | (go_at_call 65; refine (C1.out _ hl1).mono ?_; rintro e w' ⟨rfl, rfl⟩) | (go_at_call 66; refine (C2.out _ hl1).mono ?_; rintro e w' ⟨rfl, rfl⟩))
  exact bodyPost_ret (v := .agg #[.int .i64 f, .int .i64 (f + l - 1)]) (by simp [results, Tryz.results48, go_sem]) rfl ⟨rfl, (Below.refl _ _).alloc (Nat.le_refl _) _⟩
end Go.Proofs.YtmgglcfndhfceaaGreatDoor.Per
/- What every card of the statements about periods needs: what the listed variable gives, and that the door's own heap meets its condition. No condition of its own. -/
namespace Go.Proofs.YtmgglcfndhfceaaGreatDoor
open Go Go.RowKit Go.Lib
theorem Per.RetV.out {P : Program} {f : FuncId} {args : Array Value} {v : Value} {w : World} (h : Calls P f args w (Per.RetV v w)) : Calls P f args w fun e w' => e = .returned v ∧ Below w.heap.size w w' := h

theorem own : ownKnob Tryz.prog.godebug = none := by kernel_rfl
theorem laidOut : laidOutB Tryz.prog = true := by kernel_rfl

theorem gLg : Tryz.prog.globalNamed "payroll/calendar.longest" = some 0 := by kernel_rfl
theorem tLg : (Tryz.prog.globals[0]?).map (·.type) = some 86 := by kernel_rfl
def lgTab : List Int := [31, 29, 31, 30, 31, 30, 31, 31, 30, 31, 30, 31]
theorem lgIs_of_tab {w : World} (h : Lib.TabIs Tryz.prog w "payroll/calendar.longest" .i64 lgTab) : LgIs w := by
  intro i hi
  have h' : w.var? Tryz.prog "payroll/calendar.longest" = some (lgTab.map fun z => Value.int .i64 z).toArray := h
  rw [World.var?_cell gLg h' i]
  have a : ∀ i : Nat, i < 12 → (lgTab.map fun z => Value.int .i64 z).toArray[i]? = some (.int .i64 (lgT i)) := by
    intro i hi
    rcases (by omega : i = 0 ∨ i = 1 ∨ i = 2 ∨ i = 3 ∨ i = 4 ∨ i = 5 ∨ i = 6 ∨ i = 7 ∨ i = 8 ∨ i = 9 ∨ i = 10 ∨ i = 11) with rfl | rfl | rfl | rfl | rfl | rfl | rfl | rfl | rfl | rfl | rfl | rfl <;> rfl
  exact a i hi
theorem i64_wf {a : Int} (h : (Lit.int .i64 a).wf = true) : -9223372036854775808 ≤ a ∧ a ≤ 9223372036854775807 := by
  simp [Lit.wf, IntKind.min, IntKind.max, IntKind.signed, IntKind.bits] at h; omega

theorem cells_ratio : Tryz.prog.cellsOf 27 = 2 := by kernel_rfl
/-- The door's own heap meets the condition. -/
theorem door_met1 (os : Os) (args : Array Value) : laidMetH Tryz.prog [("payroll/calendar.longest", Rows.laid_payroll_calendar_longest)] ((World.doorLaid Tryz.prog 400 os).forCall (fun _ _ => 0) ⟨#[], args, []⟩).memory :=
  laidMetH_of_parts3 (fuel := 8) (laidMet_of_run' 8 (by kernel_rfl) (by kernel_rfl)) (by kernel_rfl) (by kernel_rfl)
theorem lg_of_laid {W : World} (h : laidMetH Tryz.prog [("payroll/calendar.longest", Rows.laid_payroll_calendar_longest)] W) : LgIs W := by
  rw [MakeChecks.laidMetH_plain _ _ _ (by kernel_rfl)] at h
  obtain ⟨ps, ⟨g0, t0, cs0, f0, p0, q0, hg0, ht0, hv0, hd0, _, _⟩, _, _⟩ := h
  obtain rfl := Option.some.inj (gLg.symm.trans hg0)
  obtain rfl := Option.some.inj (tLg.symm.trans ht0)
  refine lgIs_of_tab ?_
  unfold Lib.TabIs
  rw [hv0, ← Lib.cells_of_tab (zs := lgTab) Tryz.underlying86 Tryz.underlying3 (by kernel_rfl) (by kernel_rfl) hd0]
end Go.Proofs.YtmgglcfndhfceaaGreatDoor
