/-
  CalendarWorkdays: the walk: working days are counted day by day; the answer is true. Condition: the listed variables read as the program's text lays them.
-/
import Derived.Test.YtfoocingingpcaaDoorPrCq
import Derived.Test.YtfoocingingpcaaDoorPrCp
namespace Go.Proofs.YtfoocingingpcaaDoor
open Go Go.RowKit Go.Lib Go.Proofs.YtfoocingingpcaaDoor.Tp

theorem work_at (Z : List Int) (a : Option Addr) (n cap : Nat) (hs : List Cal.Hol) (hZ : Cal.nmAll hs = Z) (hn : n ≤ 1024) (from_ to_ : Int) (f0 : 0 ≤ from_) (f1 : from_ ≤ 84005) (t0 : 0 ≤ to_) (t1 : to_ ≤ 84005) (hv : hs.all Cal.Hol.ok = true) (w : World) (hr : HolRow w w.heap.size a n hs) (hl : LgIs w) :
    Calls Tryd.prog 45 #[.slice a n cap, .int .i64 from_, .int .i64 to_] w fun e w' => e = .returned (.tuple #[.int .i64 (Cal.cnt Z from_ (to_ - from_ + 1).toNat), .int .i64 0]) ∧ Below w.heap.size w w' := by
  subst hZ; exact work_ok a n cap hs hn from_ to_ f0 f1 t0 t1 hv w hr hl
theorem nm_nil : Cal.nmAll [] = [] := by
  have : ∀ v, v ∉ Cal.nmAll [] := fun v h => by
    obtain ⟨i, hi, h⟩ := (Cal.mem_allY [] 1970 230 v).mp h
    obtain ⟨r, hr, _⟩ := (Cal.mem_oneY [] _ v).mp h
    cases hr
  exact List.eq_nil_iff_forall_not_mem.mpr this
theorem HolRow.size {w w' : World} {a : Option Addr} {n : Nat} {hs : List Cal.Hol} (h : HolRow w w.heap.size a n hs) (hb : Below w.heap.size w w') : HolRow w' w'.heap.size a n hs := (h.below hb).more hb.size

theorem hol_only {u v : World} {b n : Nat} {A : Option Addr} {hs : List Cal.Hol} (h : HolRow u u.heap.size A n hs) (hO : Only b u v) (hne : ∀ y, A = some y → b < y.block) : HolRow v v.heap.size A n hs := by
  rcases A with _ | x
  · exact ⟨h.1, fun hn => by obtain ⟨y, e, _⟩ := h.2 hn; cases e⟩
  · exact (holRow_only h hO (Nat.ne_of_gt (hne x rfl))).more hO.size

set_option maxRecDepth 100000 in
set_option maxHeartbeats 4000000 in
theorem workdays_walk (p : Option Addr) (len cap : Nat) (zs : List Int) (n : Int) (hn : Fits n) (w : World) (hr : IsRow w p len cap zs) (hl : len ≤ 9223372036854775807) (hok : OKC w) :
    Calls Tryd.prog 11 #[.slice p len cap, .int .i64 n] w fun e w' => e = .returned (.bool true) ∧ Below w.heap.size w w' := by
  have HT0 := Lib.hid (tape_new hr hl 63)
  have m0 := modT_lo n 83905 (by omega)
  have m1 := modT_hi n 83905 (by omega)
  have M := Lib.hid (mod_any n 83905 hn.1 hn.2 (by omega) (by omega))
  generalize modT n 83905 = m at m0 m1 M
  clear hr hn
  go_enter Tryd.func11, Tryd.ntmps11
  go_wp2_with fail
  refine (gnew_any _ _ _ _).mono ?_
  rintro e w' ⟨rfl, rfl⟩
  have B0 : Below w.heap.size w (w.alloc (.cells #[.slice p len cap, .int .i64 0] 63)) := Below.alloc (Below.refl _ _) (Nat.le_refl _) _
  generalize w.alloc (.cells #[.slice p len cap, .int .i64 0] 63) = w0 at HT0 B0
  go_wp2_with fail
  refine (thol_any w.heap.size false _ HT0.out).mono ?_
  rintro e w1 ⟨A, k, c2, hs, rfl, hk, hR, hne, hv, T1, O1⟩
  have HR1 := Lib.hid hR
  have HNE := Lib.hid hne
  have HV := Lib.hid (hv rfl)
  have HT1 := Lib.hid T1
  have B1 := B0.trans (O1.below (Nat.le_refl _) B0.size)
  obtain ⟨Z, hZ⟩ : ∃ Z, Cal.nmAll hs = Z := ⟨_, rfl⟩
  have HZ := Lib.hid hZ
  clear hR hv hne T1 O1 hZ HT0 B0
  go_wp2_with (go_at_call 12; (with_reducible refine (M.out _).mono ?_); rintro e w' ⟨rfl, rfl⟩)
  refine (next_any w.heap.size 40 (by omega) (by omega) _ HT1.out).mono ?_
  rintro e w2 ⟨x, rfl, x0, x1, T2, O2⟩
  have HT2 := Lib.hid T2
  have HR2 := Lib.hid (hol_only HR1.out O2 HNE.out)
  have B2 := B1.trans (O2.below (Nat.le_refl _) B1.size)
  clear T2 O2 HT1 HR1 B1
  go_wp2_with fail
  refine (next_any w.heap.size 40 (by omega) (by omega) _ HT2.out).mono ?_
  rintro e w3 ⟨y, rfl, y0, y1, T3, O3⟩
  have HR3 := Lib.hid (hol_only HR2.out O3 HNE.out)
  have B3 := B2.trans (O3.below (Nat.le_refl _) B2.size)
  have hl3 := hok.lg.below B3
  clear T3 O3 HT2 HR2 B2
  have EA : Hid (Cal.cnt Z m (m + x - m + 1).toNat + Cal.cnt Z (m + x + 1) (m + 40 + y - (m + x + 1) + 1).toNat = Cal.cnt Z m (m + 40 + y - m + 1).toNat) := Lib.hid (by
    have h := Cal.cnt_add Z m (m + x - m + 1).toNat (m + 40 + y - (m + x + 1) + 1).toNat
    rw [show m + (((m + x - m + 1).toNat : Nat) : Int) = m + x + 1 by omega, show (m + x - m + 1).toNat + (m + 40 + y - (m + x + 1) + 1).toNat = (m + 40 + y - m + 1).toNat by omega] at h
    exact h.symm)
  have k1 := Cal.cnt_bd Z m (m + x - m + 1).toNat
  have k2 := Cal.cnt_bd Z (m + x + 1) (m + 40 + y - (m + x + 1) + 1).toNat
  have C1 := Lib.hid (work_at Z A k c2 hs HZ.out (by omega) m (m + x) (by omega) (by omega) (by omega) (by omega) HV.out)
  have C2 := Lib.hid (work_at Z A k c2 hs HZ.out (by omega) (m + x + 1) (m + 40 + y) (by omega) (by omega) (by omega) (by omega) HV.out)
  have C3 := Lib.hid (work_at Z A k c2 hs HZ.out (by omega) m (m + 40 + y) (by omega) (by omega) (by omega) (by omega) HV.out)
  have C4 := Lib.hid (work_at [] none 0 0 [] nm_nil (by omega) m (m + 6) (by omega) (by omega) (by omega) (by omega) rfl)
  rw [show (m + 6 - m + 1).toNat = 7 by omega, Cal.cnt_nil7] at C4
  generalize Cal.cnt Z m (m + x - m + 1).toNat = q1 at EA k1 C1
  generalize Cal.cnt Z (m + x + 1) (m + 40 + y - (m + x + 1) + 1).toNat = q2 at EA k2 C2
  generalize Cal.cnt Z m (m + 40 + y - m + 1).toNat = q3 at EA C3
  have hq : (q1 + q2 == q3) = true := by rw [EA.out]; simp
  obtain ⟨k1a, k1b⟩ := k1
  obtain ⟨k2a, k2b⟩ := k2
  have k1c : q1 ≤ 1000 := by omega
  have k2c : q2 ≤ 1000 := by omega
  clear EA k1b k2b
  go_wp2_with fail
  refine (C1.out _ HR3.out hl3).mono ?_
  rintro e w4 ⟨rfl, hw4⟩
  have HR4 := Lib.hid (HR3.out.size hw4)
  have B4 := B3.trans (hw4.mono B3.size)
  have hl4 := hok.lg.below B4
  clear hw4 HR3 B3 hl3
  go_wp2_with fail
  refine (C2.out _ HR4.out hl4).mono ?_
  rintro e w5 ⟨rfl, hw5⟩
  have HR5 := Lib.hid (HR4.out.size hw5)
  have B5 := B4.trans (hw5.mono B4.size)
  have hl5 := hok.lg.below B5
  clear hw5 HR4 B4 hl4
  go_wp2_with fail
  refine (C3.out _ HR5.out hl5).mono ?_
  rintro e w6 ⟨rfl, hw6⟩
  have B6 := B5.trans (hw6.mono B5.size)
  have hl6 := hok.lg.below B6
  clear hw6 HR5 B5 hl5
  go_wp2_with fail
  refine (C4.out _ ⟨rfl, fun h => by omega⟩ hl6).mono ?_
  rintro e w7 ⟨rfl, hw7⟩
  have B7 := B6.trans (hw7.mono B6.size)
  clear hw7 B6 hl6 C1 C2 C3 C4
  go_wp2_with fail
  refine (sane_any _ (hok.below B7)).mono ?_
  rintro e w8 ⟨rfl, hw8⟩
  have B8 := B7.trans (hw8.mono B7.size)
  clear hw8
  go_wp2_with fail
  go_ret
  exact ⟨rfl, B8⟩
end Go.Proofs.YtfoocingingpcaaDoor
