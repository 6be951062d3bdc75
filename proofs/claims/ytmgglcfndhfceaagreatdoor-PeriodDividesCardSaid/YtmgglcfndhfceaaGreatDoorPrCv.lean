/-
  Layer 3 (calendar): the contract of valid: a rule is valid, or not. Condition: the table of month lengths reads as the program's text lays it.
-/
import Derived.Test.YtmgglcfndhfceaaGreatDoorPrCi
namespace Go.Proofs.YtmgglcfndhfceaaGreatDoor
open Go Go.RowKit Go.Lib

/-- What a contract of one Bool leaves: it, and nothing that was there has changed. -/
def RetB (b : Bool) (w : World) (e : Ending) (w' : World) : Prop := e = .returned (.bool b) ∧ Below w.heap.size w w'
theorem RetB.of {b b' : Bool} {w w' : World} {e : Ending} (he : e = .returned (.bool b')) (hb : b = b') (h : Below w.heap.size w w') : RetB b w e w' := by
  subst hb; exact ⟨he, h⟩
theorem vB_t {a b c d e : Int} (h : Cal.vP a b c d e) : Cal.vB a b c d e = true := decide_eq_true h
theorem vB_f {a b c d e : Int} (h : ¬ Cal.vP a b c d e) : Cal.vB a b c d e = false := decide_eq_false h

set_option maxRecDepth 100000 in
set_option maxHeartbeats 1000000 in
theorem valid_o (kind month day wday off : Int) (moved : Bool) (h0 : (kind == 0) = false) (h1 : (kind == 1) = false) (h2 : (kind == 2) = false) (w : World) :
    Calls Tryz.prog 54 #[.agg #[.int .i64 kind, .int .i64 month, .int .i64 day, .int .i64 wday, .int .i64 off, .bool moved]] w (RetB false w) := by
  go_enter Tryz.func54, Tryz.ntmps54
  go_wp2
  go_ret
  exact RetB.of rfl rfl (by first | exact Below.alloc (Below.refl _ _) (Nat.le_refl _) _ | exact below_drewN (Below.alloc (Below.refl _ _) (Nat.le_refl _) _) _)
set_option maxRecDepth 100000 in
set_option maxHeartbeats 1000000 in
theorem valid_0a (month day wday off : Int) (moved : Bool) (h : month < 1 ∨ 12 < month) (w : World) :
    Calls Tryz.prog 54 #[.agg #[.int .i64 0, .int .i64 month, .int .i64 day, .int .i64 wday, .int .i64 off, .bool moved]] w (RetB false w) := by
  go_enter Tryz.func54, Tryz.ntmps54
  go_wp2
  go_quiet ((go_at_call 67; first | (with_reducible exact quiet_left (within_no _ _ _ h _)) | (with_reducible exact quiet_add_left (within_no _ _ _ h _))))
  go_wp2
  go_ret
  exact RetB.of rfl rfl (by first | exact Below.alloc (Below.refl _ _) (Nat.le_refl _) _ | exact below_drewN (Below.alloc (Below.refl _ _) (Nat.le_refl _) _) _)
set_option maxRecDepth 100000 in
set_option maxHeartbeats 1000000 in
theorem valid_0b (i : Nat) (day wday off : Int) (moved : Bool) (hi : i < 12) (h : day < 1 ∨ lgT i < day) (w : World) (hl : LgIs w) :
    Calls Tryz.prog 54 #[.agg #[.int .i64 0, .int .i64 (i + 1), .int .i64 day, .int .i64 wday, .int .i64 off, .bool moved]] w (RetB false w) := by
  have c : ∀ (o : Obj) (n : Nat), ((w.alloc o).drewN n).cell? ⟨0, i, none⟩ = some (.int .i64 (lgT i)) := fun o n => (hl.below (below_drewN (Below.alloc (Below.refl _ _) (Nat.le_refl _) o) n)) i hi
  have i2 : (i : Int) + 1 ≤ 12 := by omega
  have i3 : (1 : Int) ≤ (i : Int) + 1 := by omega
  clear hl
  go_enter Tryz.func54, Tryz.ntmps54
  go_wp2
  go_quiet ((go_at_call 67; first | (with_reducible exact quiet_left (within_yes _ _ _ i3 i2 _)) | (with_reducible exact quiet_add_left (within_yes _ _ _ i3 i2 _)) | (with_reducible exact quiet_left (within_no _ _ _ h _)) | (with_reducible exact quiet_add_left (within_no _ _ _ h _))))
  go_wp2
  go_ret
  exact RetB.of rfl rfl (by first | exact Below.alloc (Below.refl _ _) (Nat.le_refl _) _ | exact below_drewN (Below.alloc (Below.refl _ _) (Nat.le_refl _) _) _)
set_option maxRecDepth 100000 in
set_option maxHeartbeats 1000000 in
theorem valid_0c (i : Nat) (day wday off : Int) (moved : Bool) (hi : i < 12) (d0 : 1 ≤ day) (d1 : day ≤ lgT i) (hw : (wday == 0) = false) (w : World) (hl : LgIs w) :
    Calls Tryz.prog 54 #[.agg #[.int .i64 0, .int .i64 (i + 1), .int .i64 day, .int .i64 wday, .int .i64 off, .bool moved]] w (RetB false w) := by
  have c : ∀ (o : Obj) (n : Nat), ((w.alloc o).drewN n).cell? ⟨0, i, none⟩ = some (.int .i64 (lgT i)) := fun o n => (hl.below (below_drewN (Below.alloc (Below.refl _ _) (Nat.le_refl _) o) n)) i hi
  have i2 : (i : Int) + 1 ≤ 12 := by omega
  have i3 : (1 : Int) ≤ (i : Int) + 1 := by omega
  clear hl
  go_enter Tryz.func54, Tryz.ntmps54
  go_wp2
  go_quiet ((go_at_call 67; first | (with_reducible exact quiet_left (within_yes _ _ _ i3 i2 _)) | (with_reducible exact quiet_add_left (within_yes _ _ _ i3 i2 _)) | (with_reducible exact quiet_left (within_yes _ _ _ d0 d1 _)) | (with_reducible exact quiet_add_left (within_yes _ _ _ d0 d1 _))))
  go_wp2
  go_ret
  exact RetB.of rfl rfl (by first | exact Below.alloc (Below.refl _ _) (Nat.le_refl _) _ | exact below_drewN (Below.alloc (Below.refl _ _) (Nat.le_refl _) _) _)
set_option maxRecDepth 100000 in
set_option maxHeartbeats 1000000 in
theorem valid_0d (i : Nat) (day off : Int) (moved : Bool) (hi : i < 12) (d0 : 1 ≤ day) (d1 : day ≤ lgT i) (ho : (off == 0) = false) (w : World) (hl : LgIs w) :
    Calls Tryz.prog 54 #[.agg #[.int .i64 0, .int .i64 (i + 1), .int .i64 day, .int .i64 0, .int .i64 off, .bool moved]] w (RetB false w) := by
  have c : ∀ (o : Obj) (n : Nat), ((w.alloc o).drewN n).cell? ⟨0, i, none⟩ = some (.int .i64 (lgT i)) := fun o n => (hl.below (below_drewN (Below.alloc (Below.refl _ _) (Nat.le_refl _) o) n)) i hi
  have i2 : (i : Int) + 1 ≤ 12 := by omega
  have i3 : (1 : Int) ≤ (i : Int) + 1 := by omega
  clear hl
  go_enter Tryz.func54, Tryz.ntmps54
  go_wp2
  go_quiet ((go_at_call 67; first | (with_reducible exact quiet_left (within_yes _ _ _ i3 i2 _)) | (with_reducible exact quiet_add_left (within_yes _ _ _ i3 i2 _)) | (with_reducible exact quiet_left (within_yes _ _ _ d0 d1 _)) | (with_reducible exact quiet_add_left (within_yes _ _ _ d0 d1 _))))
  go_wp2
  go_ret
  exact RetB.of rfl rfl (by first | exact Below.alloc (Below.refl _ _) (Nat.le_refl _) _ | exact below_drewN (Below.alloc (Below.refl _ _) (Nat.le_refl _) _) _)
set_option maxRecDepth 100000 in
set_option maxHeartbeats 1000000 in
theorem valid_0e (i : Nat) (day : Int) (moved : Bool) (hi : i < 12) (d0 : 1 ≤ day) (d1 : day ≤ lgT i) (w : World) (hl : LgIs w) :
    Calls Tryz.prog 54 #[.agg #[.int .i64 0, .int .i64 (i + 1), .int .i64 day, .int .i64 0, .int .i64 0, .bool moved]] w (RetB true w) := by
  have c : ∀ (o : Obj) (n : Nat), ((w.alloc o).drewN n).cell? ⟨0, i, none⟩ = some (.int .i64 (lgT i)) := fun o n => (hl.below (below_drewN (Below.alloc (Below.refl _ _) (Nat.le_refl _) o) n)) i hi
  have i2 : (i : Int) + 1 ≤ 12 := by omega
  have i3 : (1 : Int) ≤ (i : Int) + 1 := by omega
  clear hl
  go_enter Tryz.func54, Tryz.ntmps54
  go_wp2
  go_quiet ((go_at_call 67; first | (with_reducible exact quiet_left (within_yes _ _ _ i3 i2 _)) | (with_reducible exact quiet_add_left (within_yes _ _ _ i3 i2 _)) | (with_reducible exact quiet_left (within_yes _ _ _ d0 d1 _)) | (with_reducible exact quiet_add_left (within_yes _ _ _ d0 d1 _))))
  go_wp2
  go_ret
  exact RetB.of rfl rfl (by first | exact Below.alloc (Below.refl _ _) (Nat.le_refl _) _ | exact below_drewN (Below.alloc (Below.refl _ _) (Nat.le_refl _) _) _)
set_option maxRecDepth 100000 in
set_option maxHeartbeats 1000000 in
theorem valid_1a (month day wday off : Int) (moved : Bool) (h : (month == 0) = false) (w : World) :
    Calls Tryz.prog 54 #[.agg #[.int .i64 1, .int .i64 month, .int .i64 day, .int .i64 wday, .int .i64 off, .bool moved]] w (RetB false w) := by
  go_enter Tryz.func54, Tryz.ntmps54
  go_wp2
  go_ret
  exact RetB.of rfl rfl (by first | exact Below.alloc (Below.refl _ _) (Nat.le_refl _) _ | exact below_drewN (Below.alloc (Below.refl _ _) (Nat.le_refl _) _) _)
set_option maxRecDepth 100000 in
set_option maxHeartbeats 1000000 in
theorem valid_1b (day wday off : Int) (moved : Bool) (h : (day == 0) = false) (w : World) :
    Calls Tryz.prog 54 #[.agg #[.int .i64 1, .int .i64 0, .int .i64 day, .int .i64 wday, .int .i64 off, .bool moved]] w (RetB false w) := by
  go_enter Tryz.func54, Tryz.ntmps54
  go_wp2
  go_ret
  exact RetB.of rfl rfl (by first | exact Below.alloc (Below.refl _ _) (Nat.le_refl _) _ | exact below_drewN (Below.alloc (Below.refl _ _) (Nat.le_refl _) _) _)
set_option maxRecDepth 100000 in
set_option maxHeartbeats 1000000 in
theorem valid_1c (wday off : Int) (moved : Bool) (h : (wday == 0) = false) (w : World) :
    Calls Tryz.prog 54 #[.agg #[.int .i64 1, .int .i64 0, .int .i64 0, .int .i64 wday, .int .i64 off, .bool moved]] w (RetB false w) := by
  go_enter Tryz.func54, Tryz.ntmps54
  go_wp2
  go_ret
  exact RetB.of rfl rfl (by first | exact Below.alloc (Below.refl _ _) (Nat.le_refl _) _ | exact below_drewN (Below.alloc (Below.refl _ _) (Nat.le_refl _) _) _)
set_option maxRecDepth 100000 in
set_option maxHeartbeats 1000000 in
theorem valid_1d (off : Int) (moved : Bool) (h : off < -100 ∨ 100 < off) (w : World) :
    Calls Tryz.prog 54 #[.agg #[.int .i64 1, .int .i64 0, .int .i64 0, .int .i64 0, .int .i64 off, .bool moved]] w (RetB false w) := by
  go_enter Tryz.func54, Tryz.ntmps54
  go_wp2_with (first | (go_at_call 67; (with_reducible refine (within_no _ _ _ h _).mono ?_); rintro e w' ⟨rfl, rfl⟩))
  go_ret
  exact RetB.of rfl rfl (by first | exact Below.alloc (Below.refl _ _) (Nat.le_refl _) _ | exact below_drewN (Below.alloc (Below.refl _ _) (Nat.le_refl _) _) _)
set_option maxRecDepth 100000 in
set_option maxHeartbeats 1000000 in
theorem valid_1e (off : Int) (moved : Bool) (h0 : -100 ≤ off) (h1 : off ≤ 100) (w : World) :
    Calls Tryz.prog 54 #[.agg #[.int .i64 1, .int .i64 0, .int .i64 0, .int .i64 0, .int .i64 off, .bool moved]] w (RetB true w) := by
  go_enter Tryz.func54, Tryz.ntmps54
  go_wp2_with (first | (go_at_call 67; (with_reducible refine (within_yes _ _ _ h0 h1 _).mono ?_); rintro e w' ⟨rfl, rfl⟩))
  go_ret
  exact RetB.of rfl rfl (by first | exact Below.alloc (Below.refl _ _) (Nat.le_refl _) _ | exact below_drewN (Below.alloc (Below.refl _ _) (Nat.le_refl _) _) _)
set_option maxRecDepth 100000 in
set_option maxHeartbeats 1000000 in
theorem valid_2a (month day wday off : Int) (moved : Bool) (h : month < 1 ∨ 12 < month) (w : World) :
    Calls Tryz.prog 54 #[.agg #[.int .i64 2, .int .i64 month, .int .i64 day, .int .i64 wday, .int .i64 off, .bool moved]] w (RetB false w) := by
  go_enter Tryz.func54, Tryz.ntmps54
  go_wp2_with (first | (go_at_call 67; (with_reducible refine (within_no _ _ _ h _).mono ?_); rintro e w' ⟨rfl, rfl⟩))
  go_ret
  exact RetB.of rfl rfl (by first | exact Below.alloc (Below.refl _ _) (Nat.le_refl _) _ | exact below_drewN (Below.alloc (Below.refl _ _) (Nat.le_refl _) _) _)
set_option maxRecDepth 100000 in
set_option maxHeartbeats 1000000 in
theorem valid_2b (month day wday off : Int) (moved : Bool) (m0 : 1 ≤ month) (m1 : month ≤ 12) (hd : (day == -1) = false) (h : day < 1 ∨ 5 < day) (w : World) :
    Calls Tryz.prog 54 #[.agg #[.int .i64 2, .int .i64 month, .int .i64 day, .int .i64 wday, .int .i64 off, .bool moved]] w (RetB false w) := by
  go_enter Tryz.func54, Tryz.ntmps54
  go_wp2_with (first | (go_at_call 67; (with_reducible refine (within_yes _ _ _ m0 m1 _).mono ?_); rintro e w' ⟨rfl, rfl⟩) | (go_at_call 67; (with_reducible refine (within_no _ _ _ h _).mono ?_); rintro e w' ⟨rfl, rfl⟩))
  go_ret
  exact RetB.of rfl rfl (by first | exact Below.alloc (Below.refl _ _) (Nat.le_refl _) _ | exact below_drewN (Below.alloc (Below.refl _ _) (Nat.le_refl _) _) _)
set_option maxRecDepth 100000 in
set_option maxHeartbeats 1000000 in
theorem valid_2cm (month wday off : Int) (moved : Bool) (m0 : 1 ≤ month) (m1 : month ≤ 12)  (h : wday < 0 ∨ 6 < wday) (w : World) :
    Calls Tryz.prog 54 #[.agg #[.int .i64 2, .int .i64 month, .int .i64 (-1), .int .i64 wday, .int .i64 off, .bool moved]] w (RetB false w) := by
  go_enter Tryz.func54, Tryz.ntmps54
  go_wp2_with (first | (go_at_call 67; (with_reducible refine (within_yes _ _ _ m0 m1 _).mono ?_); rintro e w' ⟨rfl, rfl⟩) | (go_at_call 67; (with_reducible refine (within_no _ _ _ h _).mono ?_); rintro e w' ⟨rfl, rfl⟩))
  go_ret
  exact RetB.of rfl rfl (by first | exact Below.alloc (Below.refl _ _) (Nat.le_refl _) _ | exact below_drewN (Below.alloc (Below.refl _ _) (Nat.le_refl _) _) _)
set_option maxRecDepth 100000 in
set_option maxHeartbeats 1000000 in
theorem valid_2dm (month wday off : Int) (moved : Bool) (m0 : 1 ≤ month) (m1 : month ≤ 12)  (w0 : 0 ≤ wday) (w1 : wday ≤ 6) (h : off < -7 ∨ 7 < off) (w : World) :
    Calls Tryz.prog 54 #[.agg #[.int .i64 2, .int .i64 month, .int .i64 (-1), .int .i64 wday, .int .i64 off, .bool moved]] w (RetB false w) := by
  go_enter Tryz.func54, Tryz.ntmps54
  go_wp2_with (first | (go_at_call 67; (with_reducible refine (within_yes _ _ _ m0 m1 _).mono ?_); rintro e w' ⟨rfl, rfl⟩) | (go_at_call 67; (with_reducible refine (within_yes _ _ _ w0 w1 _).mono ?_); rintro e w' ⟨rfl, rfl⟩) | (go_at_call 67; (with_reducible refine (within_no _ _ _ h _).mono ?_); rintro e w' ⟨rfl, rfl⟩))
  go_ret
  exact RetB.of rfl rfl (by first | exact Below.alloc (Below.refl _ _) (Nat.le_refl _) _ | exact below_drewN (Below.alloc (Below.refl _ _) (Nat.le_refl _) _) _)
set_option maxRecDepth 100000 in
set_option maxHeartbeats 1000000 in
theorem valid_2em (month wday off : Int) (moved : Bool) (m0 : 1 ≤ month) (m1 : month ≤ 12)  (w0 : 0 ≤ wday) (w1 : wday ≤ 6) (o0 : -7 ≤ off) (o1 : off ≤ 7) (w : World) :
    Calls Tryz.prog 54 #[.agg #[.int .i64 2, .int .i64 month, .int .i64 (-1), .int .i64 wday, .int .i64 off, .bool moved]] w (RetB true w) := by
  go_enter Tryz.func54, Tryz.ntmps54
  go_wp2_with (first | (go_at_call 67; (with_reducible refine (within_yes _ _ _ m0 m1 _).mono ?_); rintro e w' ⟨rfl, rfl⟩) | (go_at_call 67; (with_reducible refine (within_yes _ _ _ w0 w1 _).mono ?_); rintro e w' ⟨rfl, rfl⟩) | (go_at_call 67; (with_reducible refine (within_yes _ _ _ o0 o1 _).mono ?_); rintro e w' ⟨rfl, rfl⟩))
  go_ret
  exact RetB.of rfl rfl (by first | exact Below.alloc (Below.refl _ _) (Nat.le_refl _) _ | exact below_drewN (Below.alloc (Below.refl _ _) (Nat.le_refl _) _) _)
set_option maxRecDepth 100000 in
set_option maxHeartbeats 1000000 in
theorem valid_2cp (month day wday off : Int) (moved : Bool) (m0 : 1 ≤ month) (m1 : month ≤ 12) (hd : (day == -1) = false) (d0 : 1 ≤ day) (d1 : day ≤ 5) (h : wday < 0 ∨ 6 < wday) (w : World) :
    Calls Tryz.prog 54 #[.agg #[.int .i64 2, .int .i64 month, .int .i64 day, .int .i64 wday, .int .i64 off, .bool moved]] w (RetB false w) := by
  go_enter Tryz.func54, Tryz.ntmps54
  go_wp2_with (first | (go_at_call 67; (with_reducible refine (within_yes _ _ _ m0 m1 _).mono ?_); rintro e w' ⟨rfl, rfl⟩) | (go_at_call 67; (with_reducible refine (within_yes _ _ _ d0 d1 _).mono ?_); rintro e w' ⟨rfl, rfl⟩) | (go_at_call 67; (with_reducible refine (within_no _ _ _ h _).mono ?_); rintro e w' ⟨rfl, rfl⟩))
  go_ret
  exact RetB.of rfl rfl (by first | exact Below.alloc (Below.refl _ _) (Nat.le_refl _) _ | exact below_drewN (Below.alloc (Below.refl _ _) (Nat.le_refl _) _) _)
set_option maxRecDepth 100000 in
set_option maxHeartbeats 1000000 in
theorem valid_2dp (month day wday off : Int) (moved : Bool) (m0 : 1 ≤ month) (m1 : month ≤ 12) (hd : (day == -1) = false) (d0 : 1 ≤ day) (d1 : day ≤ 5) (w0 : 0 ≤ wday) (w1 : wday ≤ 6) (h : off < -7 ∨ 7 < off) (w : World) :
    Calls Tryz.prog 54 #[.agg #[.int .i64 2, .int .i64 month, .int .i64 day, .int .i64 wday, .int .i64 off, .bool moved]] w (RetB false w) := by
  go_enter Tryz.func54, Tryz.ntmps54
  go_wp2_with (first | (go_at_call 67; (with_reducible refine (within_yes _ _ _ m0 m1 _).mono ?_); rintro e w' ⟨rfl, rfl⟩) | (go_at_call 67; (with_reducible refine (within_yes _ _ _ d0 d1 _).mono ?_); rintro e w' ⟨rfl, rfl⟩) | (go_at_call 67; (with_reducible refine (within_yes _ _ _ w0 w1 _).mono ?_); rintro e w' ⟨rfl, rfl⟩) | (go_at_call 67; (with_reducible refine (within_no _ _ _ h _).mono ?_); rintro e w' ⟨rfl, rfl⟩))
  go_ret
  exact RetB.of rfl rfl (by first | exact Below.alloc (Below.refl _ _) (Nat.le_refl _) _ | exact below_drewN (Below.alloc (Below.refl _ _) (Nat.le_refl _) _) _)
set_option maxRecDepth 100000 in
set_option maxHeartbeats 1000000 in
theorem valid_2ep (month day wday off : Int) (moved : Bool) (m0 : 1 ≤ month) (m1 : month ≤ 12) (hd : (day == -1) = false) (d0 : 1 ≤ day) (d1 : day ≤ 5) (w0 : 0 ≤ wday) (w1 : wday ≤ 6) (o0 : -7 ≤ off) (o1 : off ≤ 7) (w : World) :
    Calls Tryz.prog 54 #[.agg #[.int .i64 2, .int .i64 month, .int .i64 day, .int .i64 wday, .int .i64 off, .bool moved]] w (RetB true w) := by
  go_enter Tryz.func54, Tryz.ntmps54
  go_wp2_with (first | (go_at_call 67; (with_reducible refine (within_yes _ _ _ m0 m1 _).mono ?_); rintro e w' ⟨rfl, rfl⟩) | (go_at_call 67; (with_reducible refine (within_yes _ _ _ d0 d1 _).mono ?_); rintro e w' ⟨rfl, rfl⟩) | (go_at_call 67; (with_reducible refine (within_yes _ _ _ w0 w1 _).mono ?_); rintro e w' ⟨rfl, rfl⟩) | (go_at_call 67; (with_reducible refine (within_yes _ _ _ o0 o1 _).mono ?_); rintro e w' ⟨rfl, rfl⟩))
  go_ret
  exact RetB.of rfl rfl (by first | exact Below.alloc (Below.refl _ _) (Nat.le_refl _) _ | exact below_drewN (Below.alloc (Below.refl _ _) (Nat.le_refl _) _) _)

theorem lgM_eq (i : Nat) : Cal.lgM ((i : Int) + 1 - 1) = lgT i := by
  rw [show (i : Int) + 1 - 1 = i by omega]; rfl
theorem beqF {a b : Int} (h : ¬ a = b) : (a == b) = false := by simp [h]
theorem valid_any (h : Cal.Hol) (w : World) (hl : LgIs w) :
    Calls Tryz.prog 54 #[.agg #[.int .i64 h.kind, .int .i64 h.month, .int .i64 h.day, .int .i64 h.wday, .int .i64 h.off, .bool h.moved]] w (RetB h.ok w) := by
  obtain ⟨kind, month, day, wday, off, moved⟩ := h
  unfold Cal.Hol.ok
  simp only
  by_cases k0 : kind = 0
  · subst k0
    by_cases hm : month < 1 ∨ 12 < month
    · rw [vB_f (by unfold Cal.vP; omega)]; exact valid_0a _ _ _ _ _ hm _
    · obtain ⟨i, hi, rfl⟩ : ∃ i : Nat, i < 12 ∧ month = i + 1 := ⟨(month - 1).toNat, by omega, by omega⟩
      have L := lgM_eq i
      by_cases hd : day < 1 ∨ lgT i < day
      · rw [vB_f (by unfold Cal.vP; rw [L]; omega)]; exact valid_0b i _ _ _ _ hi hd _ hl
      · have d0 : 1 ≤ day := by omega
        have d1 : day ≤ lgT i := by omega
        by_cases hw : wday = 0
        · subst hw
          by_cases ho : off = 0
          · subst ho
            rw [vB_t (by unfold Cal.vP; rw [L]; omega)]; exact valid_0e i _ _ hi d0 d1 _ hl
          · rw [vB_f (by unfold Cal.vP; omega)]; exact valid_0d i _ _ _ hi d0 d1 (beqF ho) _ hl
        · rw [vB_f (by unfold Cal.vP; omega)]; exact valid_0c i _ _ _ _ hi d0 d1 (beqF hw) _ hl
  · by_cases k1 : kind = 1
    · subst k1
      by_cases hm : month = 0
      · subst hm
        by_cases hd : day = 0
        · subst hd
          by_cases hw : wday = 0
          · subst hw
            by_cases ho : off < -100 ∨ 100 < off
            · rw [vB_f (by unfold Cal.vP; omega)]; exact valid_1d _ _ ho _
            · rw [vB_t (by unfold Cal.vP; omega)]; exact valid_1e _ _ (by omega) (by omega) _
          · rw [vB_f (by unfold Cal.vP; omega)]; exact valid_1c _ _ _ (beqF hw) _
        · rw [vB_f (by unfold Cal.vP; omega)]; exact valid_1b _ _ _ _ (beqF hd) _
      · rw [vB_f (by unfold Cal.vP; omega)]; exact valid_1a _ _ _ _ _ (beqF hm) _
    · by_cases k2 : kind = 2
      · subst k2
        by_cases hm : month < 1 ∨ 12 < month
        · rw [vB_f (by unfold Cal.vP; omega)]; exact valid_2a _ _ _ _ _ hm _
        · have m0 : 1 ≤ month := by omega
          have m1 : month ≤ 12 := by omega
          by_cases hd : day = -1
          · subst hd
            by_cases hw : wday < 0 ∨ 6 < wday
            · rw [vB_f (by unfold Cal.vP; omega)]; exact valid_2cm _ _ _ _ m0 m1 hw _
            · by_cases ho : off < -7 ∨ 7 < off
              · rw [vB_f (by unfold Cal.vP; omega)]; exact valid_2dm _ _ _ _ m0 m1 (by omega) (by omega) ho _
              · rw [vB_t (by unfold Cal.vP; omega)]; exact valid_2em _ _ _ _ m0 m1 (by omega) (by omega) (by omega) (by omega) _
          · by_cases hd' : day < 1 ∨ 5 < day
            · rw [vB_f (by unfold Cal.vP; omega)]; exact valid_2b _ _ _ _ _ m0 m1 (beqF hd) hd' _
            · by_cases hw : wday < 0 ∨ 6 < wday
              · rw [vB_f (by unfold Cal.vP; omega)]; exact valid_2cp _ _ _ _ _ m0 m1 (beqF hd) (by omega) (by omega) hw _
              · by_cases ho : off < -7 ∨ 7 < off
                · rw [vB_f (by unfold Cal.vP; omega)]; exact valid_2dp _ _ _ _ _ m0 m1 (beqF hd) (by omega) (by omega) (by omega) (by omega) ho _
                · rw [vB_t (by unfold Cal.vP; omega)]; exact valid_2ep _ _ _ _ _ m0 m1 (beqF hd) (by omega) (by omega) (by omega) (by omega) (by omega) (by omega) _
      · rw [vB_f (by unfold Cal.vP; omega)]; exact valid_o _ _ _ _ _ _ (beqF k0) (beqF k1) (beqF k2) _
end Go.Proofs.YtmgglcfndhfceaaGreatDoor
