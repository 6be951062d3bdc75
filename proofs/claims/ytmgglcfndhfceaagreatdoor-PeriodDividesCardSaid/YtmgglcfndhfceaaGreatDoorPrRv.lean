/-
  The reference of layer 3 (calendar): contracts of ValidRule, named, Valid. Conditions: the arguments fit their kinds; the list reads as rules.
-/
import Derived.Test.YtmgglcfndhfceaaGreatDoorPrCt
import Derived.Test.YtmgglcfndhfceaaGreatDoorPrCw
namespace Go.Proofs.YtmgglcfndhfceaaGreatDoor
open Go Go.RowKit Go.Lib

set_option maxRecDepth 100000 in
set_option maxHeartbeats 1000000 in
theorem rv_o (kind month day wday off : Int) (moved : Bool) (h0 : (kind == 0) = false) (h1 : (kind == 1) = false) (h2 : (kind == 2) = false) (w : World) :
    Calls Tryz.prog 56 #[.agg #[.int .i64 kind, .int .i64 month, .int .i64 day, .int .i64 wday, .int .i64 off, .bool moved]] w (RetB false w) := by
  go_enter Tryz.func56, Tryz.ntmps56
  go_wp2
  go_ret
  exact RetB.of rfl rfl (by first | exact Below.alloc (Below.refl _ _) (Nat.le_refl _) _ | exact below_drewN (Below.alloc (Below.refl _ _) (Nat.le_refl _) _) _)
set_option maxRecDepth 100000 in
set_option maxHeartbeats 1000000 in
theorem rv_0a (month day wday off : Int) (moved : Bool) (h : month < 1) (w : World) :
    Calls Tryz.prog 56 #[.agg #[.int .i64 0, .int .i64 month, .int .i64 day, .int .i64 wday, .int .i64 off, .bool moved]] w (RetB false w) := by
  have hd0 : decide ((1 : Int) ≤ month) = false := decide_eq_false (by omega)
  go_enter Tryz.func56, Tryz.ntmps56
  go_wp2
  go_quiet (fail)
  go_wp2
  go_ret
  exact RetB.of rfl rfl (by first | exact Below.alloc (Below.refl _ _) (Nat.le_refl _) _ | exact below_drewN (Below.alloc (Below.refl _ _) (Nat.le_refl _) _) _)
set_option maxRecDepth 100000 in
set_option maxHeartbeats 1000000 in
theorem rv_0a2 (month day wday off : Int) (moved : Bool) (h : 12 < month) (h0 : 1 ≤ month) (w : World) :
    Calls Tryz.prog 56 #[.agg #[.int .i64 0, .int .i64 month, .int .i64 day, .int .i64 wday, .int .i64 off, .bool moved]] w (RetB false w) := by
  have hd0 : decide (month ≤ 12) = false := decide_eq_false (by omega)
  go_enter Tryz.func56, Tryz.ntmps56
  go_wp2
  go_quiet (fail)
  go_wp2
  go_ret
  exact RetB.of rfl rfl (by first | exact Below.alloc (Below.refl _ _) (Nat.le_refl _) _ | exact below_drewN (Below.alloc (Below.refl _ _) (Nat.le_refl _) _) _)
set_option maxRecDepth 100000 in
set_option maxHeartbeats 1000000 in
theorem rv_0b (month day wday off : Int) (moved : Bool) (m0 : 1 ≤ month) (m1 : month ≤ 12) (h : day < 1) (w : World) :
    Calls Tryz.prog 56 #[.agg #[.int .i64 0, .int .i64 month, .int .i64 day, .int .i64 wday, .int .i64 off, .bool moved]] w (RetB false w) := by
  have hd0 : decide ((1 : Int) ≤ day) = false := decide_eq_false (by omega)
  go_enter Tryz.func56, Tryz.ntmps56
  go_wp2
  go_quiet (fail)
  go_wp2
  go_ret
  exact RetB.of rfl rfl (by first | exact Below.alloc (Below.refl _ _) (Nat.le_refl _) _ | exact below_drewN (Below.alloc (Below.refl _ _) (Nat.le_refl _) _) _)
set_option maxRecDepth 100000 in
set_option maxHeartbeats 1000000 in
theorem rv_0b2 (month day wday off : Int) (moved : Bool) (m0 : 1 ≤ month) (m1 : month ≤ 12) (d0 : 1 ≤ day) (h : Cal.dm 2000 (month - 1) < day) (w : World) :
    Calls Tryz.prog 56 #[.agg #[.int .i64 0, .int .i64 month, .int .i64 day, .int .i64 wday, .int .i64 off, .bool moved]] w (RetB false w) := by
  have hd : decide (day ≤ Cal.dm 2000 (month - 1)) = false := decide_eq_false (by omega)
  go_enter Tryz.func56, Tryz.ntmps56
  go_wp2
  go_quiet ((go_at_call 35; first | (with_reducible exact quiet_left (rlen_any _ _ (by omega) (by omega) m0 m1 _)) | (with_reducible exact quiet_add_left (rlen_any _ _ (by omega) (by omega) m0 m1 _))))
  go_wp2
  go_ret
  exact RetB.of rfl rfl (by first | exact Below.alloc (Below.refl _ _) (Nat.le_refl _) _ | exact below_drewN (Below.alloc (Below.refl _ _) (Nat.le_refl _) _) _)
set_option maxRecDepth 100000 in
set_option maxHeartbeats 1000000 in
theorem rv_0c (month day wday off : Int) (moved : Bool) (m0 : 1 ≤ month) (m1 : month ≤ 12) (d0 : 1 ≤ day) (d1 : day ≤ Cal.dm 2000 (month - 1)) (hw : (wday == 0) = false) (w : World) :
    Calls Tryz.prog 56 #[.agg #[.int .i64 0, .int .i64 month, .int .i64 day, .int .i64 wday, .int .i64 off, .bool moved]] w (RetB false w) := by
  go_enter Tryz.func56, Tryz.ntmps56
  go_wp2
  go_quiet ((go_at_call 35; first | (with_reducible exact quiet_left (rlen_any _ _ (by omega) (by omega) m0 m1 _)) | (with_reducible exact quiet_add_left (rlen_any _ _ (by omega) (by omega) m0 m1 _))))
  go_wp2
  go_ret
  exact RetB.of rfl rfl (by first | exact Below.alloc (Below.refl _ _) (Nat.le_refl _) _ | exact below_drewN (Below.alloc (Below.refl _ _) (Nat.le_refl _) _) _)
set_option maxRecDepth 100000 in
set_option maxHeartbeats 1000000 in
theorem rv_0d (month day off : Int) (moved : Bool) (m0 : 1 ≤ month) (m1 : month ≤ 12) (d0 : 1 ≤ day) (d1 : day ≤ Cal.dm 2000 (month - 1)) (ho : (off == 0) = false) (w : World) :
    Calls Tryz.prog 56 #[.agg #[.int .i64 0, .int .i64 month, .int .i64 day, .int .i64 0, .int .i64 off, .bool moved]] w (RetB false w) := by
  go_enter Tryz.func56, Tryz.ntmps56
  go_wp2
  go_quiet ((go_at_call 35; first | (with_reducible exact quiet_left (rlen_any _ _ (by omega) (by omega) m0 m1 _)) | (with_reducible exact quiet_add_left (rlen_any _ _ (by omega) (by omega) m0 m1 _))))
  go_wp2
  go_ret
  exact RetB.of rfl rfl (by first | exact Below.alloc (Below.refl _ _) (Nat.le_refl _) _ | exact below_drewN (Below.alloc (Below.refl _ _) (Nat.le_refl _) _) _)
set_option maxRecDepth 100000 in
set_option maxHeartbeats 1000000 in
theorem rv_0e (month day : Int) (moved : Bool) (m0 : 1 ≤ month) (m1 : month ≤ 12) (d0 : 1 ≤ day) (d1 : day ≤ Cal.dm 2000 (month - 1)) (w : World) :
    Calls Tryz.prog 56 #[.agg #[.int .i64 0, .int .i64 month, .int .i64 day, .int .i64 0, .int .i64 0, .bool moved]] w (RetB true w) := by
  go_enter Tryz.func56, Tryz.ntmps56
  go_wp2
  go_quiet ((go_at_call 35; first | (with_reducible exact quiet_left (rlen_any _ _ (by omega) (by omega) m0 m1 _)) | (with_reducible exact quiet_add_left (rlen_any _ _ (by omega) (by omega) m0 m1 _))))
  go_wp2
  go_ret
  exact RetB.of rfl rfl (by first | exact Below.alloc (Below.refl _ _) (Nat.le_refl _) _ | exact below_drewN (Below.alloc (Below.refl _ _) (Nat.le_refl _) _) _)
set_option maxRecDepth 100000 in
set_option maxHeartbeats 1000000 in
theorem rv_1d (month day wday off : Int) (moved : Bool) (h : off < -100) (w : World) :
    Calls Tryz.prog 56 #[.agg #[.int .i64 1, .int .i64 month, .int .i64 day, .int .i64 wday, .int .i64 off, .bool moved]] w (RetB false w) := by
  go_enter Tryz.func56, Tryz.ntmps56
  go_wp2
  go_ret
  exact RetB.of rfl rfl (by first | exact Below.alloc (Below.refl _ _) (Nat.le_refl _) _ | exact below_drewN (Below.alloc (Below.refl _ _) (Nat.le_refl _) _) _)
set_option maxRecDepth 100000 in
set_option maxHeartbeats 1000000 in
theorem rv_1d2 (month day wday off : Int) (moved : Bool) (h0 : -100 ≤ off) (h : 100 < off) (w : World) :
    Calls Tryz.prog 56 #[.agg #[.int .i64 1, .int .i64 month, .int .i64 day, .int .i64 wday, .int .i64 off, .bool moved]] w (RetB false w) := by
  have hd0 : decide (off ≤ 100) = false := decide_eq_false (by omega)
  go_enter Tryz.func56, Tryz.ntmps56
  go_wp2
  go_ret
  exact RetB.of rfl rfl (by first | exact Below.alloc (Below.refl _ _) (Nat.le_refl _) _ | exact below_drewN (Below.alloc (Below.refl _ _) (Nat.le_refl _) _) _)
set_option maxRecDepth 100000 in
set_option maxHeartbeats 1000000 in
theorem rv_1a (month day wday off : Int) (moved : Bool) (o0 : -100 ≤ off) (o1 : off ≤ 100) (h : (month == 0) = false) (w : World) :
    Calls Tryz.prog 56 #[.agg #[.int .i64 1, .int .i64 month, .int .i64 day, .int .i64 wday, .int .i64 off, .bool moved]] w (RetB false w) := by
  go_enter Tryz.func56, Tryz.ntmps56
  go_wp2
  go_ret
  exact RetB.of rfl rfl (by first | exact Below.alloc (Below.refl _ _) (Nat.le_refl _) _ | exact below_drewN (Below.alloc (Below.refl _ _) (Nat.le_refl _) _) _)
set_option maxRecDepth 100000 in
set_option maxHeartbeats 1000000 in
theorem rv_1b (day wday off : Int) (moved : Bool) (o0 : -100 ≤ off) (o1 : off ≤ 100) (h : (day == 0) = false) (w : World) :
    Calls Tryz.prog 56 #[.agg #[.int .i64 1, .int .i64 0, .int .i64 day, .int .i64 wday, .int .i64 off, .bool moved]] w (RetB false w) := by
  go_enter Tryz.func56, Tryz.ntmps56
  go_wp2
  go_ret
  exact RetB.of rfl rfl (by first | exact Below.alloc (Below.refl _ _) (Nat.le_refl _) _ | exact below_drewN (Below.alloc (Below.refl _ _) (Nat.le_refl _) _) _)
set_option maxRecDepth 100000 in
set_option maxHeartbeats 1000000 in
theorem rv_1c (wday off : Int) (moved : Bool) (o0 : -100 ≤ off) (o1 : off ≤ 100) (h : (wday == 0) = false) (w : World) :
    Calls Tryz.prog 56 #[.agg #[.int .i64 1, .int .i64 0, .int .i64 0, .int .i64 wday, .int .i64 off, .bool moved]] w (RetB false w) := by
  go_enter Tryz.func56, Tryz.ntmps56
  go_wp2
  go_ret
  exact RetB.of rfl rfl (by first | exact Below.alloc (Below.refl _ _) (Nat.le_refl _) _ | exact below_drewN (Below.alloc (Below.refl _ _) (Nat.le_refl _) _) _)
set_option maxRecDepth 100000 in
set_option maxHeartbeats 1000000 in
theorem rv_1e (off : Int) (moved : Bool) (o0 : -100 ≤ off) (o1 : off ≤ 100) (w : World) :
    Calls Tryz.prog 56 #[.agg #[.int .i64 1, .int .i64 0, .int .i64 0, .int .i64 0, .int .i64 off, .bool moved]] w (RetB true w) := by
  go_enter Tryz.func56, Tryz.ntmps56
  go_wp2
  go_ret
  exact RetB.of rfl rfl (by first | exact Below.alloc (Below.refl _ _) (Nat.le_refl _) _ | exact below_drewN (Below.alloc (Below.refl _ _) (Nat.le_refl _) _) _)
set_option maxRecDepth 100000 in
set_option maxHeartbeats 1000000 in
theorem rv_2a (month day wday off : Int) (moved : Bool) (h : month < 1) (w : World) :
    Calls Tryz.prog 56 #[.agg #[.int .i64 2, .int .i64 month, .int .i64 day, .int .i64 wday, .int .i64 off, .bool moved]] w (RetB false w) := by
  go_enter Tryz.func56, Tryz.ntmps56
  go_wp2
  go_ret
  exact RetB.of rfl rfl (by first | exact Below.alloc (Below.refl _ _) (Nat.le_refl _) _ | exact below_drewN (Below.alloc (Below.refl _ _) (Nat.le_refl _) _) _)
set_option maxRecDepth 100000 in
set_option maxHeartbeats 1000000 in
theorem rv_2a2 (month day wday off : Int) (moved : Bool) (h0 : 1 ≤ month) (h : 12 < month) (w : World) :
    Calls Tryz.prog 56 #[.agg #[.int .i64 2, .int .i64 month, .int .i64 day, .int .i64 wday, .int .i64 off, .bool moved]] w (RetB false w) := by
  have hd0 : decide (month ≤ 12) = false := decide_eq_false (by omega)
  go_enter Tryz.func56, Tryz.ntmps56
  go_wp2
  go_ret
  exact RetB.of rfl rfl (by first | exact Below.alloc (Below.refl _ _) (Nat.le_refl _) _ | exact below_drewN (Below.alloc (Below.refl _ _) (Nat.le_refl _) _) _)
set_option maxRecDepth 100000 in
set_option maxHeartbeats 1000000 in
theorem rv_2b (month day wday off : Int) (moved : Bool) (m0 : 1 ≤ month) (m1 : month ≤ 12) (hd : (day == -1) = false) (h : day < 1) (w : World) :
    Calls Tryz.prog 56 #[.agg #[.int .i64 2, .int .i64 month, .int .i64 day, .int .i64 wday, .int .i64 off, .bool moved]] w (RetB false w) := by
  go_enter Tryz.func56, Tryz.ntmps56
  go_wp2
  go_ret
  exact RetB.of rfl rfl (by first | exact Below.alloc (Below.refl _ _) (Nat.le_refl _) _ | exact below_drewN (Below.alloc (Below.refl _ _) (Nat.le_refl _) _) _)
set_option maxRecDepth 100000 in
set_option maxHeartbeats 1000000 in
theorem rv_2b2 (month day wday off : Int) (moved : Bool) (m0 : 1 ≤ month) (m1 : month ≤ 12) (hd : (day == -1) = false) (h0 : 1 ≤ day) (h : 5 < day) (w : World) :
    Calls Tryz.prog 56 #[.agg #[.int .i64 2, .int .i64 month, .int .i64 day, .int .i64 wday, .int .i64 off, .bool moved]] w (RetB false w) := by
  have hd0 : decide (day ≤ 5) = false := decide_eq_false (by omega)
  go_enter Tryz.func56, Tryz.ntmps56
  go_wp2
  go_ret
  exact RetB.of rfl rfl (by first | exact Below.alloc (Below.refl _ _) (Nat.le_refl _) _ | exact below_drewN (Below.alloc (Below.refl _ _) (Nat.le_refl _) _) _)
set_option maxRecDepth 100000 in
set_option maxHeartbeats 1000000 in
theorem rv_2cm (month wday off : Int) (moved : Bool) (m0 : 1 ≤ month) (m1 : month ≤ 12)  (h : wday < 0) (w : World) :
    Calls Tryz.prog 56 #[.agg #[.int .i64 2, .int .i64 month, .int .i64 (-1), .int .i64 wday, .int .i64 off, .bool moved]] w (RetB false w) := by
  go_enter Tryz.func56, Tryz.ntmps56
  go_wp2
  go_ret
  exact RetB.of rfl rfl (by first | exact Below.alloc (Below.refl _ _) (Nat.le_refl _) _ | exact below_drewN (Below.alloc (Below.refl _ _) (Nat.le_refl _) _) _)
set_option maxRecDepth 100000 in
set_option maxHeartbeats 1000000 in
theorem rv_2c2m (month wday off : Int) (moved : Bool) (m0 : 1 ≤ month) (m1 : month ≤ 12)  (h0 : 0 ≤ wday) (h : 6 < wday) (w : World) :
    Calls Tryz.prog 56 #[.agg #[.int .i64 2, .int .i64 month, .int .i64 (-1), .int .i64 wday, .int .i64 off, .bool moved]] w (RetB false w) := by
  have hd0 : decide (wday ≤ 6) = false := decide_eq_false (by omega)
  go_enter Tryz.func56, Tryz.ntmps56
  go_wp2
  go_ret
  exact RetB.of rfl rfl (by first | exact Below.alloc (Below.refl _ _) (Nat.le_refl _) _ | exact below_drewN (Below.alloc (Below.refl _ _) (Nat.le_refl _) _) _)
set_option maxRecDepth 100000 in
set_option maxHeartbeats 1000000 in
theorem rv_2dm (month wday off : Int) (moved : Bool) (m0 : 1 ≤ month) (m1 : month ≤ 12)  (w0 : 0 ≤ wday) (w1 : wday ≤ 6) (h : off < -7) (w : World) :
    Calls Tryz.prog 56 #[.agg #[.int .i64 2, .int .i64 month, .int .i64 (-1), .int .i64 wday, .int .i64 off, .bool moved]] w (RetB false w) := by
  go_enter Tryz.func56, Tryz.ntmps56
  go_wp2
  go_ret
  exact RetB.of rfl rfl (by first | exact Below.alloc (Below.refl _ _) (Nat.le_refl _) _ | exact below_drewN (Below.alloc (Below.refl _ _) (Nat.le_refl _) _) _)
set_option maxRecDepth 100000 in
set_option maxHeartbeats 1000000 in
theorem rv_2d2m (month wday off : Int) (moved : Bool) (m0 : 1 ≤ month) (m1 : month ≤ 12)  (w0 : 0 ≤ wday) (w1 : wday ≤ 6) (h0 : -7 ≤ off) (h : 7 < off) (w : World) :
    Calls Tryz.prog 56 #[.agg #[.int .i64 2, .int .i64 month, .int .i64 (-1), .int .i64 wday, .int .i64 off, .bool moved]] w (RetB false w) := by
  have hd0 : decide (off ≤ 7) = false := decide_eq_false (by omega)
  go_enter Tryz.func56, Tryz.ntmps56
  go_wp2
  go_ret
  exact RetB.of rfl rfl (by first | exact Below.alloc (Below.refl _ _) (Nat.le_refl _) _ | exact below_drewN (Below.alloc (Below.refl _ _) (Nat.le_refl _) _) _)
set_option maxRecDepth 100000 in
set_option maxHeartbeats 1000000 in
theorem rv_2em (month wday off : Int) (moved : Bool) (m0 : 1 ≤ month) (m1 : month ≤ 12)  (w0 : 0 ≤ wday) (w1 : wday ≤ 6) (o0 : -7 ≤ off) (o1 : off ≤ 7) (w : World) :
    Calls Tryz.prog 56 #[.agg #[.int .i64 2, .int .i64 month, .int .i64 (-1), .int .i64 wday, .int .i64 off, .bool moved]] w (RetB true w) := by
  go_enter Tryz.func56, Tryz.ntmps56
  go_wp2
  go_ret
  exact RetB.of rfl rfl (by first | exact Below.alloc (Below.refl _ _) (Nat.le_refl _) _ | exact below_drewN (Below.alloc (Below.refl _ _) (Nat.le_refl _) _) _)
set_option maxRecDepth 100000 in
set_option maxHeartbeats 1000000 in
theorem rv_2cp (month day wday off : Int) (moved : Bool) (m0 : 1 ≤ month) (m1 : month ≤ 12) (hd : (day == -1) = false) (d0 : 1 ≤ day) (d1 : day ≤ 5) (h : wday < 0) (w : World) :
    Calls Tryz.prog 56 #[.agg #[.int .i64 2, .int .i64 month, .int .i64 day, .int .i64 wday, .int .i64 off, .bool moved]] w (RetB false w) := by
  go_enter Tryz.func56, Tryz.ntmps56
  go_wp2
  go_ret
  exact RetB.of rfl rfl (by first | exact Below.alloc (Below.refl _ _) (Nat.le_refl _) _ | exact below_drewN (Below.alloc (Below.refl _ _) (Nat.le_refl _) _) _)
set_option maxRecDepth 100000 in
set_option maxHeartbeats 1000000 in
theorem rv_2c2p (month day wday off : Int) (moved : Bool) (m0 : 1 ≤ month) (m1 : month ≤ 12) (hd : (day == -1) = false) (d0 : 1 ≤ day) (d1 : day ≤ 5) (h0 : 0 ≤ wday) (h : 6 < wday) (w : World) :
    Calls Tryz.prog 56 #[.agg #[.int .i64 2, .int .i64 month, .int .i64 day, .int .i64 wday, .int .i64 off, .bool moved]] w (RetB false w) := by
  have hd0 : decide (wday ≤ 6) = false := decide_eq_false (by omega)
  go_enter Tryz.func56, Tryz.ntmps56
  go_wp2
  go_ret
  exact RetB.of rfl rfl (by first | exact Below.alloc (Below.refl _ _) (Nat.le_refl _) _ | exact below_drewN (Below.alloc (Below.refl _ _) (Nat.le_refl _) _) _)
set_option maxRecDepth 100000 in
set_option maxHeartbeats 1000000 in
theorem rv_2dp (month day wday off : Int) (moved : Bool) (m0 : 1 ≤ month) (m1 : month ≤ 12) (hd : (day == -1) = false) (d0 : 1 ≤ day) (d1 : day ≤ 5) (w0 : 0 ≤ wday) (w1 : wday ≤ 6) (h : off < -7) (w : World) :
    Calls Tryz.prog 56 #[.agg #[.int .i64 2, .int .i64 month, .int .i64 day, .int .i64 wday, .int .i64 off, .bool moved]] w (RetB false w) := by
  go_enter Tryz.func56, Tryz.ntmps56
  go_wp2
  go_ret
  exact RetB.of rfl rfl (by first | exact Below.alloc (Below.refl _ _) (Nat.le_refl _) _ | exact below_drewN (Below.alloc (Below.refl _ _) (Nat.le_refl _) _) _)
set_option maxRecDepth 100000 in
set_option maxHeartbeats 1000000 in
theorem rv_2d2p (month day wday off : Int) (moved : Bool) (m0 : 1 ≤ month) (m1 : month ≤ 12) (hd : (day == -1) = false) (d0 : 1 ≤ day) (d1 : day ≤ 5) (w0 : 0 ≤ wday) (w1 : wday ≤ 6) (h0 : -7 ≤ off) (h : 7 < off) (w : World) :
    Calls Tryz.prog 56 #[.agg #[.int .i64 2, .int .i64 month, .int .i64 day, .int .i64 wday, .int .i64 off, .bool moved]] w (RetB false w) := by
  have hd0 : decide (off ≤ 7) = false := decide_eq_false (by omega)
  go_enter Tryz.func56, Tryz.ntmps56
  go_wp2
  go_ret
  exact RetB.of rfl rfl (by first | exact Below.alloc (Below.refl _ _) (Nat.le_refl _) _ | exact below_drewN (Below.alloc (Below.refl _ _) (Nat.le_refl _) _) _)
set_option maxRecDepth 100000 in
set_option maxHeartbeats 1000000 in
theorem rv_2ep (month day wday off : Int) (moved : Bool) (m0 : 1 ≤ month) (m1 : month ≤ 12) (hd : (day == -1) = false) (d0 : 1 ≤ day) (d1 : day ≤ 5) (w0 : 0 ≤ wday) (w1 : wday ≤ 6) (o0 : -7 ≤ off) (o1 : off ≤ 7) (w : World) :
    Calls Tryz.prog 56 #[.agg #[.int .i64 2, .int .i64 month, .int .i64 day, .int .i64 wday, .int .i64 off, .bool moved]] w (RetB true w) := by
  go_enter Tryz.func56, Tryz.ntmps56
  go_wp2
  go_ret
  exact RetB.of rfl rfl (by first | exact Below.alloc (Below.refl _ _) (Nat.le_refl _) _ | exact below_drewN (Below.alloc (Below.refl _ _) (Nat.le_refl _) _) _)
theorem dm2000 (month : Int) : Cal.dm 2000 (month - 1) = Cal.lgM (month - 1) := by
  have e : Cal.lp 2000 = 1 := by decide
  unfold Cal.dm Cal.lgM; rw [e]; rfl
theorem rvalid_any (h : Cal.Hol) (w : World) :
    Calls Tryz.prog 56 #[.agg #[.int .i64 h.kind, .int .i64 h.month, .int .i64 h.day, .int .i64 h.wday, .int .i64 h.off, .bool h.moved]] w (RetB h.ok w) := by
  obtain ⟨kind, month, day, wday, off, moved⟩ := h
  unfold Cal.Hol.ok
  simp only
  have LM := dm2000 month
  by_cases k0 : kind = 0
  · subst k0
    by_cases hm : month < 1
    · rw [vB_f (by unfold Cal.vP; omega)]; exact rv_0a _ _ _ _ _ hm _
    · by_cases hm2 : 12 < month
      · rw [vB_f (by unfold Cal.vP; omega)]; exact rv_0a2 _ _ _ _ _ hm2 (by omega) _
      · by_cases hd : day < 1
        · rw [vB_f (by unfold Cal.vP; omega)]; exact rv_0b _ _ _ _ _ (by omega) (by omega) hd _
        · by_cases hd2 : Cal.dm 2000 (month - 1) < day
          · rw [vB_f (by unfold Cal.vP; omega)]; exact rv_0b2 _ _ _ _ _ (by omega) (by omega) (by omega) hd2 _
          · by_cases hw : wday = 0
            · subst hw
              by_cases ho : off = 0
              · subst ho
                rw [vB_t (by unfold Cal.vP; omega)]; exact rv_0e _ _ _ (by omega) (by omega) (by omega) (by omega) _
              · rw [vB_f (by unfold Cal.vP; omega)]; exact rv_0d _ _ _ _ (by omega) (by omega) (by omega) (by omega) (beqF ho) _
            · rw [vB_f (by unfold Cal.vP; omega)]; exact rv_0c _ _ _ _ _ (by omega) (by omega) (by omega) (by omega) (beqF hw) _
  · by_cases k1 : kind = 1
    · subst k1
      by_cases ho : off < -100
      · rw [vB_f (by unfold Cal.vP; omega)]; exact rv_1d _ _ _ _ _ ho _
      · by_cases ho2 : 100 < off
        · rw [vB_f (by unfold Cal.vP; omega)]; exact rv_1d2 _ _ _ _ _ (by omega) ho2 _
        · by_cases hm : month = 0
          · subst hm
            by_cases hd : day = 0
            · subst hd
              by_cases hw : wday = 0
              · subst hw
                rw [vB_t (by unfold Cal.vP; omega)]; exact rv_1e _ _ (by omega) (by omega) _
              · rw [vB_f (by unfold Cal.vP; omega)]; exact rv_1c _ _ _ (by omega) (by omega) (beqF hw) _
            · rw [vB_f (by unfold Cal.vP; omega)]; exact rv_1b _ _ _ _ (by omega) (by omega) (beqF hd) _
          · rw [vB_f (by unfold Cal.vP; omega)]; exact rv_1a _ _ _ _ _ (by omega) (by omega) (beqF hm) _
    · by_cases k2 : kind = 2
      · subst k2
        by_cases hm : month < 1
        · rw [vB_f (by unfold Cal.vP; omega)]; exact rv_2a _ _ _ _ _ hm _
        · by_cases hm2 : 12 < month
          · rw [vB_f (by unfold Cal.vP; omega)]; exact rv_2a2 _ _ _ _ _ (by omega) hm2 _
          · by_cases hd : day = -1
            · subst hd
              by_cases hw : wday < 0
              · rw [vB_f (by unfold Cal.vP; omega)]; exact rv_2cm _ _ _ _ (by omega) (by omega) hw _
              · by_cases hw2 : 6 < wday
                · rw [vB_f (by unfold Cal.vP; omega)]; exact rv_2c2m _ _ _ _ (by omega) (by omega) (by omega) hw2 _
                · by_cases ho : off < -7
                  · rw [vB_f (by unfold Cal.vP; omega)]; exact rv_2dm _ _ _ _ (by omega) (by omega) (by omega) (by omega) ho _
                  · by_cases ho2 : 7 < off
                    · rw [vB_f (by unfold Cal.vP; omega)]; exact rv_2d2m _ _ _ _ (by omega) (by omega) (by omega) (by omega) (by omega) ho2 _
                    · rw [vB_t (by unfold Cal.vP; omega)]; exact rv_2em _ _ _ _ (by omega) (by omega) (by omega) (by omega) (by omega) (by omega) _
            · by_cases hd1 : day < 1
              · rw [vB_f (by unfold Cal.vP; omega)]; exact rv_2b _ _ _ _ _ (by omega) (by omega) (beqF hd) hd1 _
              · by_cases hd2 : 5 < day
                · rw [vB_f (by unfold Cal.vP; omega)]; exact rv_2b2 _ _ _ _ _ (by omega) (by omega) (beqF hd) (by omega) hd2 _
                · by_cases hw : wday < 0
                  · rw [vB_f (by unfold Cal.vP; omega)]; exact rv_2cp _ _ _ _ _ (by omega) (by omega) (beqF hd) (by omega) (by omega) hw _
                  · by_cases hw2 : 6 < wday
                    · rw [vB_f (by unfold Cal.vP; omega)]; exact rv_2c2p _ _ _ _ _ (by omega) (by omega) (beqF hd) (by omega) (by omega) (by omega) hw2 _
                    · by_cases ho : off < -7
                      · rw [vB_f (by unfold Cal.vP; omega)]; exact rv_2dp _ _ _ _ _ (by omega) (by omega) (beqF hd) (by omega) (by omega) (by omega) (by omega) ho _
                      · by_cases ho2 : 7 < off
                        · rw [vB_f (by unfold Cal.vP; omega)]; exact rv_2d2p _ _ _ _ _ (by omega) (by omega) (beqF hd) (by omega) (by omega) (by omega) (by omega) (by omega) ho2 _
                        · rw [vB_t (by unfold Cal.vP; omega)]; exact rv_2ep _ _ _ _ _ (by omega) (by omega) (beqF hd) (by omega) (by omega) (by omega) (by omega) (by omega) (by omega) _
      · rw [vB_f (by unfold Cal.vP; omega)]; exact rv_o _ _ _ _ _ _ (beqF k0) (beqF k1) (beqF k2) _
set_option maxRecDepth 100000 in
set_option maxHeartbeats 1000000 in
theorem rvalidL_any (a : Option Addr) (n cap : Nat) (hs : List Cal.Hol) (hn : n ≤ 1024) (w : World) (hr : HolRow w w.heap.size a n hs) :
    Calls Tryz.prog 40 #[.slice a n cap] w fun e w' => e = .returned (.int .i64 (vlE hs)) ∧ Below w.heap.size w w' := by
  go_enter Tryz.func40, Tryz.ntmps40
  go_wp2
  go_loopw [3] (fun x wr => ∃ k : Nat, k ≤ n ∧ x = .int .i64 k ∧ Hid ((hs.take k).all Cal.Hol.ok = true) ∧ Below w.heap.size w wr) (fun x _ => n - (intOf x).toNat)
  case atStart => exact ⟨0, by omega, rfl, Lib.hid rfl, Below.refl _ _⟩
  case round =>
    obtain ⟨k, hk, rfl, HA, hB⟩ := hrel
    by_cases hlt : k < n
    · obtain ⟨hlen, hcs⟩ := hr.below hB
      obtain ⟨x, rfl, hx, hc⟩ := hcs (by omega)
      have hk' : k < hs.length := by omega
      obtain ⟨c0, c1, c2, c3, c4, c5⟩ := hc k hk'
      have S := Lib.hid (allOk_snoc hs k hk')
      generalize hh : hs[k] = h at *
      have HH := Lib.hid hh
      clear hc hcs hh
      rcases hv : h.ok with _ | _
      · have HV := Lib.hid hv
        have C := Lib.hid (rvalid_any h)
        rw [hv] at C
        clear hv
        go_wp2_with fail
        refine (C.out _).mono ?_
        rintro e w1 ⟨rfl, hw1⟩
        have hB1 : Below w.heap.size w w1 := hB.trans (hw1.mono hB.size)
        clear hw1
        go_wp2_with fail
        go_ret
        refine ⟨retI ?_, hB1⟩
        have : hs.all Cal.Hol.ok = false := by
          rcases he : hs.all Cal.Hol.ok with _ | _
          · rfl
          · have := (List.all_eq_true.mp he) hs[k] (List.getElem_mem hk')
            rw [HH.out, HV.out] at this; cases this
        unfold vlE; rw [this]; rfl
      · have HV := Lib.hid hv
        have C := Lib.hid (rvalid_any h)
        rw [hv] at C
        clear hv
        go_wp2_with fail
        refine (C.out _).mono ?_
        rintro e w1 ⟨rfl, hw1⟩
        have hB1 : Below w.heap.size w w1 := hB.trans (hw1.mono hB.size)
        clear hw1
        go_wp2_with fail
        go_roundw
        case rel => exact ⟨k + 1, by omega, by go_num, Lib.hid (by rw [S.out, HA.out, HV.out]; rfl), hB1⟩
        case measure => simp [intOf]; omega
    · go_wp2
      go_ret
      refine ⟨retI ?_, hB⟩
      have : hs.all Cal.Hol.ok = true := by
        have := HA.out
        rwa [List.take_of_length_le (by have := hr.1; omega)] at this
      unfold vlE; rw [this]; rfl
set_option maxRecDepth 100000 in
set_option maxHeartbeats 1000000 in
theorem rvalidL_many (a : Option Addr) (n cap : Nat) (hn : 1024 < n) (hn' : n ≤ 9223372036854775807) (w : World) :
    Calls Tryz.prog 40 #[.slice a n cap] w fun e w' => e = .returned (.int .i64 3) ∧ w = w' := by
  go_enter Tryz.func40, Tryz.ntmps40
  go_wp2
  go_ret
  exact ⟨rfl, rfl⟩
end Go.Proofs.YtmgglcfndhfceaaGreatDoor
