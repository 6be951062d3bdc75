/-
  The reference of layer 5 (period): the contract of Weights where nothing is refused. Conditions: the cuts and the holidays lie in memory.
-/
import Derived.Test.YtmgglcfndhfceaaGreatDoorPrYg
namespace Go.Proofs.YtmgglcfndhfceaaGreatDoor.Per
open Go Go.RowKit Go.Lib Go.Proofs Go.Proofs.YtmgglcfndhfceaaGreatDoor Go.Proofs.YtmgglcfndhfceaaGreatDoor.Cal
set_option linter.unusedVariables false

theorem below_via {u X v : World} (h : Below X.heap.size X v) (hX : Below u.heap.size u X) : Below u.heap.size u v := hX.trans (h.mono hX.size)
set_option maxRecDepth 100000 in
set_option maxHeartbeats 4000000 in
theorem rwts_ok (k a n mt : Int) (ca : Option Addr) (cn ccap : Nat) (g : Nat → Int) (ha : Option Addr) (hn hcap : Nat) (hs : List Hol) (h : spP k a n) (hm0 : 0 ≤ mt) (hm1 : mt ≤ 2) (hmk : (mt == 2) = false ∨ ((mt == 2) = true ∧ (k != 0) = false)) (hc : cn ≤ 1000000) (hd : dvP g (sF k a n) (sT k a n) cn) (hn1 : hn ≤ 1024) (hv : hs.all Hol.ok = true) (w : World) (hr : CutRow w w.heap.size ca cn g) (hh : HolRow w w.heap.size ha hn hs) :
    Calls Tryz.prog 23 #[.agg #[.int .i64 k, .int .i64 a], .int .i64 n, .slice ca cn ccap, .int .i64 mt, .slice ha hn hcap] w (WtsR cn (wtF mt (nmAll hs) g (sF k a n) (sT k a n) cn) w) := by
  have C1 := Lib.hid (rpspan_yes k a n h)
  have sp := span_bd k a n h.2.1 h.2.2
  clear h
  generalize sF k a n = F at *
  generalize sT k a n = T at *
  have tm0 : decide (mt < 0) = false := decide_eq_false (by omega)
  have tm1 : decide (2 < mt) = false := decide_eq_false (by omega)
  have HO := Lib.hid hd
  have HDV := Lib.hid hd
  have HH := Lib.hid hh
  have C3 := Lib.hid (rvalidL_of ha hn hcap hs hn1 0 (vl_ok hv))
  have C4 := Lib.hid (fun (d : Int) (d0 : 0 ≤ d) (d1 : d ≤ 84005) w h => rwt_any mt hs d ha hn hcap hn1 hm0 hm1 hv d0 d1 w h)
  obtain ⟨s0, s1, s2, s3⟩ := sp
  rcases hmk with hmk | ⟨hmk, hkk⟩
  all_goals
    go_enter Tryz.func23, Tryz.ntmps23
    go_wp2_with fail
    have R := Box2.new w 27 k a
    refine (C1.out _).mono ?_
    rintro e w1 ⟨rfl, hw1⟩
    have R1 := R.step hw1
    have hB1 : Below w.heap.size w w1 := Below.trans ((Below.refl w.heap.size w).alloc (Nat.le_refl _) _) (hw1.mono (by simp))
    clear hw1 R
    have zk := (R1.alloc (.cells #[.int .i64 F, .int .i64 T] 34)).c0
    have hBd : Below w.heap.size w (w1.alloc (.cells #[.int .i64 F, .int .i64 T] 34)) := hB1.alloc hB1.size _
    have hB1s : w.heap.size ≤ w1.heap.size := hB1.size
    have HI0 := Lib.hid (show RcI w w1.heap.size F T ca cn g (w1.alloc (.cells #[.int .i64 F, .int .i64 T] 34)) from ⟨Box2.new w1 _ F T, hr.below hBd, hBd⟩)
    clear R1 hBd hB1 hr
    go_wp2_with fail
    go_loopw [14] (fun z wr => ∃ i : Nat, i ≤ cn ∧ i ≤ cn ∧ z = .int .i64 i ∧ Hid (RcI w w1.heap.size F T ca cn g wr)) (fun z _ => cn - (intOf z).toNat)
    case atStart => exact ⟨0, by omega, by omega, rfl, HI0⟩
    case round =>
      clear HI0 zk
      obtain ⟨i, hi, hib, rfl, HI⟩ := hrel
      have d0 := HI.out.days.c0
      have d1 := HI.out.days.c1
      by_cases hlt : i < cn
      · obtain ⟨x, hx0, hx, hcc⟩ := HI.out.cuts (by omega)
        subst hx0
        have c := hcc i hlt
        have p0 := bnd_part s1 i hi fun j hj => HO.out j (by omega)
        obtain ⟨p0, p1⟩ := p0
        by_cases hbb : i < cn
        · obtain ⟨o0, o1⟩ := HO.out i hbb
          have f1 : decide (g i ≤ F) = false := decide_eq_false (by omega)
          have f2 : decide (T < g i) = false := decide_eq_false (by omega)
          rcases i with _ | j
          · have cx := c
            rw [add_nil] at cx
            generalize g 0 = v at *
            clear hcc
            go_wp2_with fail
            go_quiet (fail)
            have HJ := Lib.hid (HI.out.step (below_drewN (Below.refl _ _) nq))
            go_wp2_with fail
            go_roundw
            case rel => exact ⟨1, by omega, by omega, rfl, HJ⟩
            case measure =>
              show cn - ((0 : Int) + 1).toNat < cn - ((0 : Nat) : Int).toNat
              omega
          · have c' := hcc j (by omega)
            rw [bnd_cut _ _ _ _ _ (by omega)] at o0 p0 p1
            have f3 : decide (g (j + 1) ≤ g j) = false := decide_eq_false (by omega)
            have g1 : (0 : Int) ≤ (j : Int) := by omega
            have gw : IntKind.i64.wrap (((j : Int) + 1) - 1) = (j : Int) := by rw [IntWalk.i64_in _ (by omega)]; omega
            have gj : IntKind.i64.wrap (j : Int) = (j : Int) := IntWalk.i64_in _ (by omega)
            have g2 : (j : Int) < (cn : Int) := by omega
            have cx := c
            rw [add_pos _ _ (by omega)] at cx
            generalize g (j + 1) = v at *
            generalize g j = u at *
            clear hcc
            go_wp2_with fail
            go_quiet (fail)
            have HJ := Lib.hid (HI.out.step (below_drewN (Below.refl _ _) nq))
            go_wp2_with fail
            go_roundw
            case rel => exact ⟨j + 1 + 1, by omega, by omega, by push_cast; rfl, HJ⟩
            case measure =>
              show cn - (((j + 1 : Nat) : Int) + 1).toNat < cn - (((j + 1 : Nat) : Int)).toNat
              omega
        · omega
      · have hl0 : cn = i := by omega
        subst hl0
        clear HO
        have hrh := (HH.out.below HI.out.below).more (B' := wr.heap.size) HI.out.below.size
        go_wp2_with fail
        refine (C3.out _ hrh).mono ?_
        rintro e w3 ⟨rfl, hw3⟩
        have HJ := Lib.hid (HI.out.step hw3)
        clear hw3 hrh d0 d1 HI
        have hm := make_run1 cn (by have := cuts_few s1 HDV.out; omega) w3
        have I4 : RwI w w1.heap.size w3.heap.size F T ca cn g (rwF mt (nmAll hs) g F T cn F) (w3.alloc (.cells (zerosN (cn + 1)) 3)) :=
          ⟨HJ.out.step ((Below.refl _ _).alloc (Nat.le_refl _) _), (RowI.new w3 (cn + 1) 3).congr fun i hi => (rw_start mt (nmAll hs) s1 HDV.out (by omega)).symm, by simp, HJ.out.below.size, by have := HJ.out.days.lt; omega⟩
        have HI4 := Lib.hid I4
        have z0 := I4.c.days.c0
        have z1 := I4.c.days.c1
        clear I4 HJ
        have b1 := bnd_step s1 HDV.out (i := 0) (by omega)
        rw [bnd_0] at b1
        go_wp2_with fail
        go_loopw [17, 18] (fun x y wr => ∃ (p : Nat) (d : Int), p ≤ cn ∧ x = .int .i64 p ∧ y = .int .i64 d ∧ F ≤ d ∧ d ≤ T + 1 ∧ bnd g F T cn p ≤ d ∧ d ≤ bnd g F T cn (p + 1) ∧ (p = 0 ∨ bnd g F T cn p < d) ∧ Hid (RwI w w1.heap.size w3.heap.size F T ca cn g (rwF mt (nmAll hs) g F T cn d) wr)) (fun _ y _ => (T + 1 - intOf y).toNat)
        case atStart => exact ⟨0, F, by omega, rfl, rfl, by omega, by omega, by rw [bnd_0]; omega, by omega, .inl rfl, HI4⟩
        case round =>
          clear HI4 z0 z1 hm b1
          obtain ⟨p, d, hp, rfl, rfl, d0, d1, q0, q1, hpd, HR⟩ := hrel
          have z0 := HR.out.c.days.c0
          have z1 := HR.out.c.days.c1
          have hrh := (HH.out.below HR.out.c.below).more (B' := wr.heap.size) HR.out.c.below.size
          by_cases hle : d ≤ T
          · by_cases hpc : p < cn
            · obtain ⟨x, hx0, hx, hcc⟩ := HR.out.c.cuts (by omega)
              have gb := bnd_cut g F T cn p hpc
              have st := bnd_step s1 HDV.out (i := p + 1) (by omega)
              subst hx0
              have c := hcc p hpc
              clear hcc
              by_cases hgd : g p = d
              · have tq : (g p == d) = true := by simp [hgd]
                have hP : p + 1 < cn + 1 := by omega
                have hB := rw_bd mt (nmAll hs) (day := d) (i := p + 1) s1 s3 HDV.out (by omega)
                have hD := dw_bd mt (nmAll hs) d
                have EQ := Lib.hid (fun (i : Nat) (hi : i < cn + 1) => (rw_step mt (nmAll hs) (i := i) (p := p + 1) (day := d) s1 HDV.out (by omega) (by omega) (by omega) (by omega)).symm)
                have cq := HR.out.row.cell (p + 1) hP
                have fq := HR.out.row.free (p + 1) hP
                have CW := Lib.hid (show ∀ W', Below wr.heap.size wr W' → Calls Tryz.prog 41 #[.int .i64 d, .int .i64 mt, .slice ha hn hcap] W' (RetI (dw mt (nmAll hs) d) W') from fun W' hb => C4.out d (by omega) (by omega) W' ((hrh.below hb).more hb.size))
                have PB := Lib.hid (show p + 1 ≤ cn ∧ d + 1 ≤ T + 1 ∧ bnd g F T cn (p + 1) ≤ d + 1 ∧ d + 1 ≤ bnd g F T cn (p + 1 + 1) ∧ (p + 1 = 0 ∨ bnd g F T cn (p + 1) < d + 1) from by refine ⟨?_, ?_, ?_, ?_, ?_⟩ <;> omega)
                generalize hrv : rwF mt (nmAll hs) g F T cn d (p + 1) = rv at *
                generalize hdv : dw mt (nmAll hs) d = dv at *
                have gs : IntKind.i64.wrap (rv + dv) = rv + dv := IntWalk.i64_in _ (by omega)
                have HRV := Lib.hid hrv
                clear hrv hdv C1 C3 C4 HH hrh hgd gb st
                go_wp2_with fail
                go_region_with ((first | (go_at_call 41; (with_reducible refine (CW.out _ (by first | exact Below.refl _ _ | exact (Below.refl _ _).drew)).mono ?_); rintro e w9 ⟨rfl, hw9⟩; have HW : Below wr.heap.size wr w9 := below_via hw9 (by first | exact Below.refl _ _ | exact (Below.refl _ _).drew); have I9 := HR.out.step HW; have cq9 := (I9.row.cell _ hP).trans (by rw [HRV.out]); have fq9 := I9.row.free _ hP)))
                all_goals
                  go_wp2_with fail
                  go_roundw
                  case measure =>
                    show (T + 1 - (d + 1)).toNat < (T + 1 - d).toNat
                    omega
                  case rel =>
                    exact ⟨p + 1, d + 1, PB.out.1, by push_cast; rfl, rfl, by omega, PB.out.2.1, PB.out.2.2.1, PB.out.2.2.2.1, PB.out.2.2.2.2, Lib.hid (by
                      first
                        | exact I9.set hP (rv + dv) EQ.out
                        | exact (I9.step (Below.refl _ _).drew).set hP (rv + dv) EQ.out)⟩
              · have tq : (g p == d) = false := by simp [hgd]
                have hP : p < cn + 1 := by omega
                have hB := rw_bd mt (nmAll hs) (day := d) (i := p) s1 s3 HDV.out (by omega)
                have hD := dw_bd mt (nmAll hs) d
                have EQ := Lib.hid (fun (i : Nat) (hi : i < cn + 1) => (rw_step mt (nmAll hs) (i := i) (p := p) (day := d) s1 HDV.out (by omega) (by omega) (by omega) (by omega)).symm)
                have cq := HR.out.row.cell (p) hP
                have fq := HR.out.row.free (p) hP
                have CW := Lib.hid (show ∀ W', Below wr.heap.size wr W' → Calls Tryz.prog 41 #[.int .i64 d, .int .i64 mt, .slice ha hn hcap] W' (RetI (dw mt (nmAll hs) d) W') from fun W' hb => C4.out d (by omega) (by omega) W' ((hrh.below hb).more hb.size))
                have PB := Lib.hid (show p ≤ cn ∧ d + 1 ≤ T + 1 ∧ bnd g F T cn (p) ≤ d + 1 ∧ d + 1 ≤ bnd g F T cn (p + 1) ∧ (p = 0 ∨ bnd g F T cn (p) < d + 1) from by refine ⟨?_, ?_, ?_, ?_, ?_⟩ <;> omega)
                generalize hrv : rwF mt (nmAll hs) g F T cn d (p) = rv at *
                generalize hdv : dw mt (nmAll hs) d = dv at *
                have gs : IntKind.i64.wrap (rv + dv) = rv + dv := IntWalk.i64_in _ (by omega)
                have HRV := Lib.hid hrv
                clear hrv hdv C1 C3 C4 HH hrh hgd gb st
                go_wp2_with fail
                go_region_with ((first | (go_at_call 41; (with_reducible refine (CW.out _ (by first | exact Below.refl _ _ | exact (Below.refl _ _).drew)).mono ?_); rintro e w9 ⟨rfl, hw9⟩; have HW : Below wr.heap.size wr w9 := below_via hw9 (by first | exact Below.refl _ _ | exact (Below.refl _ _).drew); have I9 := HR.out.step HW; have cq9 := (I9.row.cell _ hP).trans (by rw [HRV.out]); have fq9 := I9.row.free _ hP)))
                all_goals
                  go_wp2_with fail
                  go_roundw
                  case measure =>
                    show (T + 1 - (d + 1)).toNat < (T + 1 - d).toNat
                    omega
                  case rel =>
                    exact ⟨p, d + 1, PB.out.1, rfl, rfl, by omega, PB.out.2.1, PB.out.2.2.1, PB.out.2.2.2.1, PB.out.2.2.2.2, Lib.hid (by
                      first
                        | exact I9.set hP (rv + dv) EQ.out
                        | exact (I9.step (Below.refl _ _).drew).set hP (rv + dv) EQ.out)⟩
            · have hl0 : cn = p := by omega
              have be : bnd g F T cn (p + 1) = T + 1 := by rw [← hl0]; exact bnd_end g F T cn
              have hP : p < cn + 1 := by omega
              have hB := rw_bd mt (nmAll hs) (day := d) (i := p) s1 s3 HDV.out (by omega)
              have hD := dw_bd mt (nmAll hs) d
              have EQ := Lib.hid (fun (i : Nat) (hi : i < cn + 1) => (rw_step mt (nmAll hs) (i := i) (p := p) (day := d) s1 HDV.out (by omega) (by omega) (by omega) (by omega)).symm)
              have cq := HR.out.row.cell (p) hP
              have fq := HR.out.row.free (p) hP
              have CW := Lib.hid (show ∀ W', Below wr.heap.size wr W' → Calls Tryz.prog 41 #[.int .i64 d, .int .i64 mt, .slice ha hn hcap] W' (RetI (dw mt (nmAll hs) d) W') from fun W' hb => C4.out d (by omega) (by omega) W' ((hrh.below hb).more hb.size))
              have PB := Lib.hid (show p ≤ cn ∧ d + 1 ≤ T + 1 ∧ bnd g F T cn (p) ≤ d + 1 ∧ d + 1 ≤ bnd g F T cn (p + 1) ∧ (p = 0 ∨ bnd g F T cn (p) < d + 1) from by refine ⟨?_, ?_, ?_, ?_, ?_⟩ <;> omega)
              generalize hrv : rwF mt (nmAll hs) g F T cn d (p) = rv at *
              generalize hdv : dw mt (nmAll hs) d = dv at *
              have gs : IntKind.i64.wrap (rv + dv) = rv + dv := IntWalk.i64_in _ (by omega)
              have HRV := Lib.hid hrv
              clear hrv hdv C1 C3 C4 HH hrh hl0 be
              go_wp2_with fail
              go_region_with ((first | (go_at_call 41; (with_reducible refine (CW.out _ (by first | exact Below.refl _ _ | exact (Below.refl _ _).drew)).mono ?_); rintro e w9 ⟨rfl, hw9⟩; have HW : Below wr.heap.size wr w9 := below_via hw9 (by first | exact Below.refl _ _ | exact (Below.refl _ _).drew); have I9 := HR.out.step HW; have cq9 := (I9.row.cell _ hP).trans (by rw [HRV.out]); have fq9 := I9.row.free _ hP)))
              all_goals
                go_wp2_with fail
                go_roundw
                case measure =>
                  show (T + 1 - (d + 1)).toNat < (T + 1 - d).toNat
                  omega
                case rel =>
                  exact ⟨p, d + 1, PB.out.1, rfl, rfl, by omega, PB.out.2.1, PB.out.2.2.1, PB.out.2.2.2.1, PB.out.2.2.2.2, Lib.hid (by
                    first
                      | exact I9.set hP (rv + dv) EQ.out
                      | exact (I9.step (Below.refl _ _).drew).set hP (rv + dv) EQ.out)⟩
          · have hl0 : d = T + 1 := by omega
            have END := Lib.hid (fun i (hi : i ≤ cn) => rw_end mt (nmAll hs) s1 HDV.out hi)
            subst hl0
            go_wp2_with fail
            go_ret2
            exact ⟨w3.heap.size, cn + 1, rfl, HR.out.qlo, HR.out.qlt, fun i hi => by rw [HR.out.row.cell i (by omega), END.out i hi], HR.out.c.below⟩
end Go.Proofs.YtmgglcfndhfceaaGreatDoor.Per
