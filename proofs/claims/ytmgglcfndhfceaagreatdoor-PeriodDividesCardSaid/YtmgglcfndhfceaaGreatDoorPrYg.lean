/-
  The reference of layer 5 (period): contracts of weight and Weights. Conditions: the cuts and the holidays lie in memory.
-/
import Derived.Test.YtmgglcfndhfceaaGreatDoorPrYf
import Derived.Test.YtmgglcfndhfceaaGreatDoorPrYq
import Derived.Test.YtmgglcfndhfceaaGreatDoorPrRw
namespace Go.Proofs.YtmgglcfndhfceaaGreatDoor.Per
open Go Go.RowKit Go.Lib Go.Proofs Go.Proofs.YtmgglcfndhfceaaGreatDoor Go.Proofs.YtmgglcfndhfceaaGreatDoor.Cal
set_option linter.unusedVariables false

set_option maxRecDepth 100000 in
set_option maxHeartbeats 1000000 in
theorem rwt_0 (Z : List Int) (day : Int) (A : Option Addr) (nh hcap : Nat) (w : World) :
    Calls Tryz.prog 41 #[.int .i64 day, .int .i64 0, .slice A nh hcap] w (RetI (dw 0 Z day) w) := by
  have E := Lib.hid (show dw 0 Z day = 1 by unfold dw; rw [if_pos rfl])
  go_enter Tryz.func41, Tryz.ntmps41
  go_wp2
  go_ret
  exact RetI.of rfl E.out (Below.refl _ _)
set_option maxRecDepth 100000 in
set_option maxHeartbeats 1000000 in
theorem rwt_1 (hs : List Hol) (day : Int) (A : Option Addr) (nh hcap : Nat) (hn : nh ≤ 1024) (hv : hs.all Hol.ok = true) (d0 : 0 ≤ day) (d1 : day ≤ 84005) (w : World) (hr : HolRow w w.heap.size A nh hs) :
    Calls Tryz.prog 41 #[.int .i64 day, .int .i64 1, .slice A nh hcap] w (RetI (dw 1 (nmAll hs) day) w) := by
  have M := (mO_spec day d0 d1).date
  have C := isWork_any (nmAll hs) A nh hcap hs hn day _ _ _ M hv (hit_iff hs hv _ day M.y0 M.y1 M.year) w hr
  have E : dw 1 (nmAll hs) day = if wkB (nmAll hs) day then 1 else 0 := by unfold dw; rw [if_neg (by decide), if_pos rfl]
  clear M
  rcases hb : wkB (nmAll hs) day with _ | _
  · rw [hb] at C E
    have CC := Lib.hid C
    have EE := Lib.hid E
    clear C E hb
    go_enter Tryz.func41, Tryz.ntmps41
    go_wp2_with fail
    refine CC.out.mono ?_
    rintro e w1 ⟨rfl, hw1⟩
    go_wp2_with fail
    go_ret
    exact RetI.of rfl EE.out hw1
  · rw [hb] at C E
    have CC := Lib.hid C
    have EE := Lib.hid E
    clear C E hb
    go_enter Tryz.func41, Tryz.ntmps41
    go_wp2_with fail
    refine CC.out.mono ?_
    rintro e w1 ⟨rfl, hw1⟩
    go_wp2_with fail
    go_ret
    exact RetI.of rfl EE.out hw1
set_option maxRecDepth 100000 in
set_option maxHeartbeats 1000000 in
theorem rwt_2 (Z : List Int) (day : Int) (A : Option Addr) (nh hcap : Nat) (d0 : 0 ≤ day) (d1 : day ≤ 84005) (w : World) :
    Calls Tryz.prog 41 #[.int .i64 day, .int .i64 2, .slice A nh hcap] w (RetI (dw 2 Z day) w) := by
  have M := mO_spec day d0 d1
  have E := dw_2 Z M
  have C := Lib.hid (rmonth_md day _ _ M)
  have C2 := Lib.hid (rdate_yes day _ _ _ M.date)
  have C3 := Lib.hid (rlen_in (mO day) M.m0 M.m1)
  have e0 := M.d0
  have e1 := M.d1
  obtain ⟨l0, l1⟩ := len_bd (mO day)
  clear M
  generalize day - fst (mO day) = d at *
  generalize len (mO day) = l at *
  generalize mO day = m at *
  generalize 1970 + m / 12 = y at *
  generalize m % 12 = q at *
  by_cases h : d + 1 = l
  · rw [if_pos h] at E
    have EE := Lib.hid E
    have t : (d + 1 == l) = true := by simp [h]
    clear E h
    go_enter Tryz.func41, Tryz.ntmps41
    go_wp2_with (first | (go_at_call 33; refine (C2.out _).mono ?_; rintro e w' ⟨rfl, rfl⟩) | (go_at_call 32; refine (C.out _).mono ?_; rintro e w' ⟨rfl, rfl⟩) | (go_at_call 20; refine (C3.out _).mono ?_; rintro e w' ⟨rfl, rfl⟩))
    go_ret
    exact RetI.of rfl EE.out (Below.refl _ _)
  · rw [if_neg h] at E
    have EE := Lib.hid E
    have t : (d + 1 == l) = false := by simp [h]
    clear E h
    go_enter Tryz.func41, Tryz.ntmps41
    go_wp2_with (first | (go_at_call 33; refine (C2.out _).mono ?_; rintro e w' ⟨rfl, rfl⟩) | (go_at_call 32; refine (C.out _).mono ?_; rintro e w' ⟨rfl, rfl⟩) | (go_at_call 20; refine (C3.out _).mono ?_; rintro e w' ⟨rfl, rfl⟩))
    go_ret
    exact RetI.of rfl EE.out (Below.refl _ _)
theorem rwt_any (mt : Int) (hs : List Hol) (day : Int) (A : Option Addr) (nh hcap : Nat) (hn : nh ≤ 1024) (hm : 0 ≤ mt) (hm2 : mt ≤ 2) (hv : hs.all Hol.ok = true) (d0 : 0 ≤ day) (d1 : day ≤ 84005) (w : World) (hr : HolRow w w.heap.size A nh hs) :
    Calls Tryz.prog 41 #[.int .i64 day, .int .i64 mt, .slice A nh hcap] w (RetI (dw mt (nmAll hs) day) w) := by
  rcases (by omega : mt = 0 ∨ mt = 1 ∨ mt = 2) with rfl | rfl | rfl
  · exact rwt_0 _ day A nh hcap w
  · exact rwt_1 hs day A nh hcap hn hv d0 d1 w hr
  · exact rwt_2 _ day A nh hcap d0 d1 w

/-! Weights -/
theorem add_pos (x : Addr) (j : Nat) (hj : 0 < j) : x.add j = ⟨x.block, x.off + j, none⟩ := by unfold Addr.add; rw [if_neg (by omega)]
theorem add_nil (x : Addr) : x.add 0 = x := by unfold Addr.add; rw [if_pos rfl]
theorem rpspan_no (k a n : Int) (h : ¬ spP k a n) (w : World) : Calls Tryz.prog 8 #[.agg #[.int .i64 k, .int .i64 a], .int .i64 n] w (RetS 0 0 2 w) := by
  have := rpspan_any k a n w
  obtain ⟨e1, e2, e3⟩ := sp_no h
  rwa [e1, e2, e3] at this
theorem rvalidL_of (a : Option Addr) (n cap : Nat) (hs : List Hol) (hn : n ≤ 1024) (c : Int) (hc : vlE hs = c) (w : World) (hr : HolRow w w.heap.size a n hs) :
    Calls Tryz.prog 40 #[.slice a n cap] w (RetI c w) := by
  subst hc; exact rvalidL_any a n cap hs hn w hr
/-- The loops of the reference's Weights: the days' box, the cuts. -/
structure RcI (w : World) (D : Nat) (F T : Int) (ca : Option Addr) (cn : Nat) (g : Nat → Int) (wr : World) : Prop where
  days : Box2 wr D 34 F T
  cuts : CutRow wr w.heap.size ca cn g
  below : Below w.heap.size w wr
theorem RcI.step {w wr w' : World} {D : Nat} {F T : Int} {ca : Option Addr} {cn : Nat} {g : Nat → Int} (h : RcI w D F T ca cn g wr) (hb : Below wr.heap.size wr w') : RcI w D F T ca cn g w' :=
  ⟨h.days.step hb, h.cuts.below (hb.mono h.below.size), h.below.trans (hb.mono h.below.size)⟩
/-- .. and the row that is filled. -/
structure RwI (w : World) (D q : Nat) (F T : Int) (ca : Option Addr) (cn : Nat) (g : Nat → Int) (f : Nat → Int) (wr : World) : Prop where
  c : RcI w D F T ca cn g wr
  row : RowI wr q (cn + 1) f
  qlt : q < wr.heap.size
  qlo : w.heap.size ≤ q
  ne : D ≠ q
theorem RwI.step {w wr w' : World} {D q : Nat} {F T : Int} {ca : Option Addr} {cn : Nat} {g f : Nat → Int} (h : RwI w D q F T ca cn g f wr) (hb : Below wr.heap.size wr w') : RwI w D q F T ca cn g f w' :=
  ⟨h.c.step hb, h.row.below hb h.qlt, Nat.lt_of_lt_of_le h.qlt hb.size, h.qlo, h.ne⟩
theorem RwI.set {w wr : World} {D q : Nat} {F T : Int} {ca : Option Addr} {cn : Nat} {g f f' : Nat → Int} (h : RwI w D q F T ca cn g f wr) {p : Nat} (hp : p < cn + 1) (v : Int) (e : ∀ i, i < cn + 1 → (if i = p then v else f i) = f' i) : RwI w D q F T ca cn g f' (wr.setCell ⟨q, p, none⟩ (.int .i64 v)) :=
  ⟨⟨(Below.heap_setCell wr ⟨q, p, none⟩ _ D h.ne).trans h.c.days, fun hn => by
      obtain ⟨x, hx, hx1, hc⟩ := h.c.cuts hn
      exact ⟨x, hx, hx1, fun i hi => (World.cell?_of_block (Below.heap_setCell wr ⟨q, p, none⟩ _ (x.add i).block (by rw [addB]; have := h.qlo; show x.block ≠ q; omega))).trans (hc i hi)⟩, h.c.below.setCell (by exact h.qlo) _⟩,
   (h.row.set hp v).congr e, by simpa [World.setCell] using h.qlt, h.qlo, h.ne⟩
theorem make_run1 (n : Nat) (hn : n + 1 ≤ 1000000) (w : World) :
    (Instr.makeSlice 22 (.int .i64 (1 + (n : Int))) (.int .i64 (1 + (n : Int)))).run Tryz.prog w = .ok (.slice (some ⟨w.heap.size, 0, none⟩) (n + 1) (n + 1)) (w.alloc (.cells (zerosN (n + 1)) 3)) := by
  have h := make_run (n + 1) hn w
  rwa [show ((n + 1 : Nat) : Int) = 1 + (n : Int) by omega] at h
set_option maxRecDepth 100000 in
set_option maxHeartbeats 4000000 in
theorem rwts_sp (k a n mt : Int) (ca : Option Addr) (cn ccap : Nat) (ha : Option Addr) (hn hcap : Nat) (h : ¬ spP k a n) (w : World) :
    Calls Tryz.prog 23 #[.agg #[.int .i64 k, .int .i64 a], .int .i64 n, .slice ca cn ccap, .int .i64 mt, .slice ha hn hcap] w (WtsE 2 w) := by
  have C1 := Lib.hid (rpspan_no k a n h)
  clear h
  go_enter Tryz.func23, Tryz.ntmps23
  go_wp2_with fail
  have R := Box2.new w 27 k a
  refine (C1.out _).mono ?_
  rintro e w1 ⟨rfl, hw1⟩
  have R1 := R.step hw1
  have hB1 : Below w.heap.size w w1 := Below.trans ((Below.refl w.heap.size w).alloc (Nat.le_refl _) _) (hw1.mono (by simp))
  clear hw1 R
  go_wp2_with fail
  go_ret2
  exact ⟨rfl, hB1.alloc hB1.size _⟩
set_option maxRecDepth 100000 in
set_option maxHeartbeats 4000000 in
theorem rwts_m0 (k a n mt : Int) (ca : Option Addr) (cn ccap : Nat) (ha : Option Addr) (hn hcap : Nat) (h : spP k a n) (hm : decide (mt < 0) = true) (w : World) :
    Calls Tryz.prog 23 #[.agg #[.int .i64 k, .int .i64 a], .int .i64 n, .slice ca cn ccap, .int .i64 mt, .slice ha hn hcap] w (WtsE 2 w) := by
  have C1 := Lib.hid (rpspan_yes k a n h)
  have sp := span_bd k a n h.2.1 h.2.2
  clear h
  generalize sF k a n = F at *
  generalize sT k a n = T at *
  clear sp
  go_enter Tryz.func23, Tryz.ntmps23
  go_wp2_with fail
  have R := Box2.new w 27 k a
  refine (C1.out _).mono ?_
  rintro e w1 ⟨rfl, hw1⟩
  have R1 := R.step hw1
  have hB1 : Below w.heap.size w w1 := Below.trans ((Below.refl w.heap.size w).alloc (Nat.le_refl _) _) (hw1.mono (by simp))
  clear hw1 R
  have zk := (R1.alloc (.cells #[.int .i64 F, .int .i64 T] 34)).c0
  clear R1
  go_wp2_with fail
  go_ret2
  exact ⟨rfl, hB1.alloc hB1.size _⟩
set_option maxRecDepth 100000 in
set_option maxHeartbeats 4000000 in
theorem rwts_m1 (k a n mt : Int) (ca : Option Addr) (cn ccap : Nat) (ha : Option Addr) (hn hcap : Nat) (h : spP k a n) (hm0 : decide (mt < 0) = false) (hm : decide (2 < mt) = true) (w : World) :
    Calls Tryz.prog 23 #[.agg #[.int .i64 k, .int .i64 a], .int .i64 n, .slice ca cn ccap, .int .i64 mt, .slice ha hn hcap] w (WtsE 2 w) := by
  have C1 := Lib.hid (rpspan_yes k a n h)
  have sp := span_bd k a n h.2.1 h.2.2
  clear h
  generalize sF k a n = F at *
  generalize sT k a n = T at *
  clear sp
  go_enter Tryz.func23, Tryz.ntmps23
  go_wp2_with fail
  have R := Box2.new w 27 k a
  refine (C1.out _).mono ?_
  rintro e w1 ⟨rfl, hw1⟩
  have R1 := R.step hw1
  have hB1 : Below w.heap.size w w1 := Below.trans ((Below.refl w.heap.size w).alloc (Nat.le_refl _) _) (hw1.mono (by simp))
  clear hw1 R
  have zk := (R1.alloc (.cells #[.int .i64 F, .int .i64 T] 34)).c0
  clear R1
  go_wp2_with fail
  go_ret2
  exact ⟨rfl, hB1.alloc hB1.size _⟩
set_option maxRecDepth 100000 in
set_option maxHeartbeats 4000000 in
theorem rwts_m2 (k a n mt : Int) (ca : Option Addr) (cn ccap : Nat) (ha : Option Addr) (hn hcap : Nat) (h : spP k a n) (hm : (mt == 2) = true) (hk : (k != 0) = true) (w : World) :
    Calls Tryz.prog 23 #[.agg #[.int .i64 k, .int .i64 a], .int .i64 n, .slice ca cn ccap, .int .i64 mt, .slice ha hn hcap] w (WtsE 2 w) := by
  have C1 := Lib.hid (rpspan_yes k a n h)
  have sp := span_bd k a n h.2.1 h.2.2
  clear h
  generalize sF k a n = F at *
  generalize sT k a n = T at *
  have hm0 : decide (mt < 0) = false := decide_eq_false (by simp at hm; omega)
  have hm1 : decide (2 < mt) = false := decide_eq_false (by simp at hm; omega)
  clear sp
  go_enter Tryz.func23, Tryz.ntmps23
  go_wp2_with fail
  have R := Box2.new w 27 k a
  refine (C1.out _).mono ?_
  rintro e w1 ⟨rfl, hw1⟩
  have R1 := R.step hw1
  have hB1 : Below w.heap.size w w1 := Below.trans ((Below.refl w.heap.size w).alloc (Nat.le_refl _) _) (hw1.mono (by simp))
  clear hw1 R
  have zk := (R1.alloc (.cells #[.int .i64 F, .int .i64 T] 34)).c0
  clear R1
  go_wp2_with fail
  go_ret2
  exact ⟨rfl, hB1.alloc hB1.size _⟩
set_option maxRecDepth 100000 in
set_option maxHeartbeats 4000000 in
theorem rwts_cut (k a n mt : Int) (ca : Option Addr) (cn ccap : Nat) (g : Nat → Int) (ha : Option Addr) (hn hcap : Nat) (hs : List Hol) (h : spP k a n) (hm0 : 0 ≤ mt) (hm1 : mt ≤ 2) (hmk : (mt == 2) = false ∨ ((mt == 2) = true ∧ (k != 0) = false)) (hc : cn ≤ 1000000) (b : Nat) (hb : b < cn) (ho : ∀ i, i < b → bnd g (sF k a n) (sT k a n) cn i < g i ∧ g i ≤ sT k a n) (hbad : g b ≤ bnd g (sF k a n) (sT k a n) cn b ∨ sT k a n < g b) (w : World) (hr : CutRow w w.heap.size ca cn g) (hh : HolRow w w.heap.size ha hn hs) :
    Calls Tryz.prog 23 #[.agg #[.int .i64 k, .int .i64 a], .int .i64 n, .slice ca cn ccap, .int .i64 mt, .slice ha hn hcap] w (WtsE 1 w) := by
  have C1 := Lib.hid (rpspan_yes k a n h)
  have sp := span_bd k a n h.2.1 h.2.2
  clear h
  generalize sF k a n = F at *
  generalize sT k a n = T at *
  have tm0 : decide (mt < 0) = false := decide_eq_false (by omega)
  have tm1 : decide (2 < mt) = false := decide_eq_false (by omega)
  have HO := Lib.hid ho
  have HBD := Lib.hid hbad
  clear ho hbad
  obtain ⟨s0, s1, s2, s3⟩ := sp
  rcases hmk with hmk | ⟨hmk, hkk⟩
  all_goals
    go_enter Tryz.func23, Tryz.ntmps23
    go_wp2_with fail
    have R := Box2.new w 27 k a
    refine (C1.out _).mono ?_
    rintro e w1 ⟨rfl, hw1⟩
    have R1 := R.step hw1
    have hB1 : Below w.heap.size w w1 := Below.trans ((Below.refl w.heap.size w).alloc (Nat.le_refl _) _) (hw1.mono (by simp))
    clear hw1 R
    have zk := (R1.alloc (.cells #[.int .i64 F, .int .i64 T] 34)).c0
    have hBd : Below w.heap.size w (w1.alloc (.cells #[.int .i64 F, .int .i64 T] 34)) := hB1.alloc hB1.size _
    have hB1s : w.heap.size ≤ w1.heap.size := hB1.size
    have HI0 := Lib.hid (show RcI w w1.heap.size F T ca cn g (w1.alloc (.cells #[.int .i64 F, .int .i64 T] 34)) from ⟨Box2.new w1 _ F T, hr.below hBd, hBd⟩)
    clear R1 hBd hB1 hr
    go_wp2_with fail
    go_loopw [14] (fun z wr => ∃ i : Nat, i ≤ cn ∧ i ≤ b ∧ z = .int .i64 i ∧ Hid (RcI w w1.heap.size F T ca cn g wr)) (fun z _ => cn - (intOf z).toNat)
    case atStart => exact ⟨0, by omega, by omega, rfl, HI0⟩
    case round =>
      clear HI0 zk
      obtain ⟨i, hi, hib, rfl, HI⟩ := hrel
      have d0 := HI.out.days.c0
      have d1 := HI.out.days.c1
      by_cases hlt : i < cn
      · obtain ⟨x, hx0, hx, hcc⟩ := HI.out.cuts (by omega)
        subst hx0
        have c := hcc i hlt
        have p0 := bnd_part s1 i hi fun j hj => HO.out j (by omega)
        obtain ⟨p0, p1⟩ := p0
        by_cases hbb : i < b
        · obtain ⟨o0, o1⟩ := HO.out i hbb
          have f1 : decide (g i ≤ F) = false := decide_eq_false (by omega)
          have f2 : decide (T < g i) = false := decide_eq_false (by omega)
          rcases i with _ | j
          · have cx := c
            rw [add_nil] at cx
            generalize g 0 = v at *
            clear hcc
            go_wp2_with fail
            go_quiet (fail)
            have HJ := Lib.hid (HI.out.step (below_drewN (Below.refl _ _) nq))
            go_wp2_with fail
            go_roundw
            case rel => exact ⟨1, by omega, by omega, rfl, HJ⟩
            case measure =>
              show cn - ((0 : Int) + 1).toNat < cn - ((0 : Nat) : Int).toNat
              omega
          · have c' := hcc j (by omega)
            rw [bnd_cut _ _ _ _ _ (by omega)] at o0 p0 p1
            have f3 : decide (g (j + 1) ≤ g j) = false := decide_eq_false (by omega)
            have g1 : (0 : Int) ≤ (j : Int) := by omega
            have gw : IntKind.i64.wrap (((j : Int) + 1) - 1) = (j : Int) := by rw [IntWalk.i64_in _ (by omega)]; omega
            have gj : IntKind.i64.wrap (j : Int) = (j : Int) := IntWalk.i64_in _ (by omega)
            have g2 : (j : Int) < (cn : Int) := by omega
            have cx := c
            rw [add_pos _ _ (by omega)] at cx
            generalize g (j + 1) = v at *
            generalize g j = u at *
            clear hcc
            go_wp2_with fail
            go_quiet (fail)
            have HJ := Lib.hid (HI.out.step (below_drewN (Below.refl _ _) nq))
            go_wp2_with fail
            go_roundw
            case rel => exact ⟨j + 1 + 1, by omega, by omega, by push_cast; rfl, HJ⟩
            case measure =>
              show cn - (((j + 1 : Nat) : Int) + 1).toNat < cn - (((j + 1 : Nat) : Int)).toNat
              omega
        · have hib' : i = b := by omega
          subst hib'
          have hbad := HBD.out
          rcases i with _ | j
          · have cx := c
            rw [add_nil] at cx
            rw [bnd_0] at hbad
            generalize g 0 = v at *
            clear hcc
            by_cases e1 : v ≤ F
            · have f1 : decide (v ≤ F) = true := decide_eq_true e1
              clear hbad e1
              go_wp2_with fail
              go_quiet (fail)
              have HJ := Lib.hid (HI.out.step (below_drewN (Below.refl _ _) nq))
              go_wp2_with fail
              go_ret2
              exact ⟨rfl, HJ.out.below⟩
            · have f1 : decide (v ≤ F) = false := decide_eq_false e1
              have f2 : decide (T < v) = true := decide_eq_true (by omega)
              clear hbad e1
              go_wp2_with fail
              go_quiet (fail)
              have HJ := Lib.hid (HI.out.step (below_drewN (Below.refl _ _) nq))
              go_wp2_with fail
              go_ret2
              exact ⟨rfl, HJ.out.below⟩
          · have c' := hcc j (by omega)
            have gw : IntKind.i64.wrap (((j : Int) + 1) - 1) = (j : Int) := by rw [IntWalk.i64_in _ (by omega)]; omega
            have gj : IntKind.i64.wrap (j : Int) = (j : Int) := IntWalk.i64_in _ (by omega)
            have g1 : (0 : Int) ≤ (j : Int) := by omega
            have g2 : (j : Int) < (cn : Int) := by omega
            have cx := c
            rw [add_pos _ _ (by omega)] at cx
            rw [bnd_cut _ _ _ _ _ (by omega)] at hbad p0 p1
            generalize g (j + 1) = v at *
            generalize g j = u at *
            clear hcc
            by_cases e1 : v ≤ F
            · have f1 : decide (v ≤ F) = true := decide_eq_true e1
              clear hbad e1
              go_wp2_with fail
              go_quiet (fail)
              have HJ := Lib.hid (HI.out.step (below_drewN (Below.refl _ _) nq))
              go_wp2_with fail
              go_ret2
              exact ⟨rfl, HJ.out.below⟩
            · have f1 : decide (v ≤ F) = false := decide_eq_false e1
              by_cases e2 : T < v
              · have f2 : decide (T < v) = true := decide_eq_true e2
                clear hbad e1 e2
                go_wp2_with fail
                go_quiet (fail)
                have HJ := Lib.hid (HI.out.step (below_drewN (Below.refl _ _) nq))
                go_wp2_with fail
                go_ret2
                exact ⟨rfl, HJ.out.below⟩
              · have f2 : decide (T < v) = false := decide_eq_false e2
                have f3 : decide (v ≤ u) = true := decide_eq_true (by omega)
                clear hbad e1 e2
                go_wp2_with fail
                go_quiet (fail)
                have HJ := Lib.hid (HI.out.step (below_drewN (Below.refl _ _) nq))
                go_wp2_with fail
                go_ret2
                exact ⟨rfl, HJ.out.below⟩
      · omega
set_option maxRecDepth 100000 in
set_option maxHeartbeats 4000000 in
theorem rwts_hol (k a n mt : Int) (ca : Option Addr) (cn ccap : Nat) (g : Nat → Int) (ha : Option Addr) (hn hcap : Nat) (hs : List Hol) (h : spP k a n) (hm0 : 0 ≤ mt) (hm1 : mt ≤ 2) (hmk : (mt == 2) = false ∨ ((mt == 2) = true ∧ (k != 0) = false)) (hc : cn ≤ 1000000) (hd : dvP g (sF k a n) (sT k a n) cn) (hn1 : hn ≤ 1024) (hv : hs.all Hol.ok = false) (w : World) (hr : CutRow w w.heap.size ca cn g) (hh : HolRow w w.heap.size ha hn hs) :
    Calls Tryz.prog 23 #[.agg #[.int .i64 k, .int .i64 a], .int .i64 n, .slice ca cn ccap, .int .i64 mt, .slice ha hn hcap] w (WtsE 1 w) := by
  have C1 := Lib.hid (rpspan_yes k a n h)
  have sp := span_bd k a n h.2.1 h.2.2
  clear h
  generalize sF k a n = F at *
  generalize sT k a n = T at *
  have tm0 : decide (mt < 0) = false := decide_eq_false (by omega)
  have tm1 : decide (2 < mt) = false := decide_eq_false (by omega)
  have HO := Lib.hid hd
  have HDV := Lib.hid hd
  have HH := Lib.hid hh
  have C3 := Lib.hid (rvalidL_of ha hn hcap hs hn1 1 (vl_bad hv))
  obtain ⟨s0, s1, s2, s3⟩ := sp
  rcases hmk with hmk | ⟨hmk, hkk⟩
  all_goals
    go_enter Tryz.func23, Tryz.ntmps23
    go_wp2_with fail
    have R := Box2.new w 27 k a
    refine (C1.out _).mono ?_
    rintro e w1 ⟨rfl, hw1⟩
    have R1 := R.step hw1
    have hB1 : Below w.heap.size w w1 := Below.trans ((Below.refl w.heap.size w).alloc (Nat.le_refl _) _) (hw1.mono (by simp))
    clear hw1 R
    have zk := (R1.alloc (.cells #[.int .i64 F, .int .i64 T] 34)).c0
    have hBd : Below w.heap.size w (w1.alloc (.cells #[.int .i64 F, .int .i64 T] 34)) := hB1.alloc hB1.size _
    have hB1s : w.heap.size ≤ w1.heap.size := hB1.size
    have HI0 := Lib.hid (show RcI w w1.heap.size F T ca cn g (w1.alloc (.cells #[.int .i64 F, .int .i64 T] 34)) from ⟨Box2.new w1 _ F T, hr.below hBd, hBd⟩)
    clear R1 hBd hB1 hr
    go_wp2_with fail
    go_loopw [14] (fun z wr => ∃ i : Nat, i ≤ cn ∧ i ≤ cn ∧ z = .int .i64 i ∧ Hid (RcI w w1.heap.size F T ca cn g wr)) (fun z _ => cn - (intOf z).toNat)
    case atStart => exact ⟨0, by omega, by omega, rfl, HI0⟩
    case round =>
      clear HI0 zk
      obtain ⟨i, hi, hib, rfl, HI⟩ := hrel
      have d0 := HI.out.days.c0
      have d1 := HI.out.days.c1
      by_cases hlt : i < cn
      · obtain ⟨x, hx0, hx, hcc⟩ := HI.out.cuts (by omega)
        subst hx0
        have c := hcc i hlt
        have p0 := bnd_part s1 i hi fun j hj => HO.out j (by omega)
        obtain ⟨p0, p1⟩ := p0
        by_cases hbb : i < cn
        · obtain ⟨o0, o1⟩ := HO.out i hbb
          have f1 : decide (g i ≤ F) = false := decide_eq_false (by omega)
          have f2 : decide (T < g i) = false := decide_eq_false (by omega)
          rcases i with _ | j
          · have cx := c
            rw [add_nil] at cx
            generalize g 0 = v at *
            clear hcc
            go_wp2_with fail
            go_quiet (fail)
            have HJ := Lib.hid (HI.out.step (below_drewN (Below.refl _ _) nq))
            go_wp2_with fail
            go_roundw
            case rel => exact ⟨1, by omega, by omega, rfl, HJ⟩
            case measure =>
              show cn - ((0 : Int) + 1).toNat < cn - ((0 : Nat) : Int).toNat
              omega
          · have c' := hcc j (by omega)
            rw [bnd_cut _ _ _ _ _ (by omega)] at o0 p0 p1
            have f3 : decide (g (j + 1) ≤ g j) = false := decide_eq_false (by omega)
            have g1 : (0 : Int) ≤ (j : Int) := by omega
            have gw : IntKind.i64.wrap (((j : Int) + 1) - 1) = (j : Int) := by rw [IntWalk.i64_in _ (by omega)]; omega
            have gj : IntKind.i64.wrap (j : Int) = (j : Int) := IntWalk.i64_in _ (by omega)
            have g2 : (j : Int) < (cn : Int) := by omega
            have cx := c
            rw [add_pos _ _ (by omega)] at cx
            generalize g (j + 1) = v at *
            generalize g j = u at *
            clear hcc
            go_wp2_with fail
            go_quiet (fail)
            have HJ := Lib.hid (HI.out.step (below_drewN (Below.refl _ _) nq))
            go_wp2_with fail
            go_roundw
            case rel => exact ⟨j + 1 + 1, by omega, by omega, by push_cast; rfl, HJ⟩
            case measure =>
              show cn - (((j + 1 : Nat) : Int) + 1).toNat < cn - (((j + 1 : Nat) : Int)).toNat
              omega
        · omega
      · have hl0 : i = cn := by omega
        subst hl0
        clear HO
        have hrh := (HH.out.below HI.out.below).more (B' := wr.heap.size) HI.out.below.size
        go_wp2_with fail
        refine (C3.out _ hrh).mono ?_
        rintro e w3 ⟨rfl, hw3⟩
        have HJ := Lib.hid (HI.out.step hw3)
        clear hw3 hrh d0 d1 HI
        go_wp2_with fail
        go_ret2
        exact ⟨rfl, HJ.out.below⟩
end Go.Proofs.YtmgglcfndhfceaaGreatDoor.Per
