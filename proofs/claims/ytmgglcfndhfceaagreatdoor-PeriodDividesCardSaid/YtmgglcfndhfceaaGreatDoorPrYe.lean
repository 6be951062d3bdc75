/-
  Layer 5 (period): the contract of Weights. Conditions: the cuts and the holidays lie in memory; the table of month lengths reads as the program's text lays it.
-/
import Derived.Test.YtmgglcfndhfceaaGreatDoorPrYd
import Derived.Laws.MakeOwn
import Derived.Laws.OwnMore
namespace Go.Proofs.YtmgglcfndhfceaaGreatDoor.Per
open Go Go.RowKit Go.Lib Go.Proofs.YtmgglcfndhfceaaGreatDoor Go.Proofs.YtmgglcfndhfceaaGreatDoor.Cal
set_option linter.unusedVariables false

/-- An error and nil. -/
def WtsE (c : Int) (w : World) (e : Ending) (w' : World) : Prop := e = .returned (.tuple #[.slice none 0 0, .int .i64 c]) ∧ Below w.heap.size w w'
/-- A row of the call's own and no error. -/
def WtsR (n : Nat) (f : Nat → Int) (w : World) (e : Ending) (w' : World) : Prop := ∃ p cap, e = .returned (.tuple #[.slice (some ⟨p, 0, none⟩) (n + 1) cap, .int .i64 0]) ∧ w.heap.size ≤ p ∧ p < w'.heap.size ∧ (∀ i, i ≤ n → w'.cell? ⟨p, i, none⟩ = some (.int .i64 (f i))) ∧ Below w.heap.size w w'
/-- The method suits the kind. -/
def mtP (k mt : Int) : Prop := mt = 0 ∨ mt = 1 ∨ (mt = 2 ∧ k = 0)
theorem pspan_no (k a n : Int) (h : ¬ spP k a n) (w : World) (hl : LgIs w) : Calls Tryz.prog 28 #[.agg #[.int .i64 k, .int .i64 a], .int .i64 n] w (RetS 0 0 2 w) := by
  have := pspan_any k a n w hl
  obtain ⟨e1, e2, e3⟩ := sp_no h
  rwa [e1, e2, e3] at this
theorem pvalidL_of (a : Option Addr) (n cap : Nat) (hs : List Cal.Hol) (hn : n ≤ 1024) (c : Int) (hc : vlE hs = c) (w : World) (hr : HolRow w w.heap.size a n hs) (hl : LgIs w) :
    Calls Tryz.prog 38 #[.slice a n cap] w (RetI c w) := by
  subst hc; exact validL_any a n cap hs hn w hr hl
theorem vl_ok {hs : List Cal.Hol} (h : hs.all Cal.Hol.ok = true) : vlE hs = 0 := by unfold vlE; rw [h]; rfl
theorem vl_bad {hs : List Cal.Hol} (h : hs.all Cal.Hol.ok = false) : vlE hs = 1 := by unfold vlE; rw [h]; rfl
theorem infoI : (Tryz.prog.info? 3).map (fun i => (i.zero, i.size, i.bytes)) = some (some (.int .i64 0), 1, 8) := by kernel_rfl
theorem make_cap (n : Nat) (hn : n ≤ 1000000) (w : World) :
    (Instr.makeSlice 22 (.int .i64 0) (.int .i64 ((n : Int) + 1))).run Tryz.prog w = .ok (.slice (some ⟨w.heap.size, 0, none⟩) 0 (n + 1)) (w.alloc (.cells (zerosN (n + 1)) 3)) := by
  obtain ⟨i0, hi, hz0, hz1, hz2⟩ := info_parts infoI
  have h := run_make w 22 3 i0 (.int .i64 0) Tryz.underlying22 hi hz0 .i64 .i64 0 ((n : Int) + 1) (by omega) (by omega) (by rw [hz2]; omega) (by omega)
  rw [hz1, show ((n : Int) + 1).toNat = n + 1 by omega] at h
  exact h
theorem ownKI {w w' : World} {base : Nat} {e : TypeId} {size n : Nat} {v : Value} {xs : List Value} (h : w.ownsRow base e size v n xs) (hb : Below w.heap.size w w') : w'.ownsRow base e size v n xs :=
  h.kept (row := none) ⟨hb.os, hb.tape, hb.output, hb.size, fun k hk _ => hb.block k hk⟩ (Classical.em _)
/-- The loop of Weights: the days' box, the row of the call's own. -/
structure WtI (w : World) (D : Nat) (F T : Int) (v : Value) (xs : List Int) (wr : World) : Prop where
  days : Box2 wr D 34 F T
  row : wr.ownsRow (D + 1) 3 1 v xs.length (xs.map (Value.int .i64))
  below : Below w.heap.size w wr
  lo : w.heap.size ≤ D
theorem WtI.step {w wr w' : World} {D : Nat} {F T : Int} {v : Value} {xs : List Int} (h : WtI w D F T v xs wr) (hb : Below wr.heap.size wr w') : WtI w D F T v xs w' :=
  ⟨h.days.step hb, ownKI h.row hb, h.below.trans (hb.mono h.below.size), h.lo⟩
theorem WtI.alloc {w wr : World} {D : Nat} {F T : Int} {v : Value} {xs : List Int} (h : WtI w D F T v xs wr) (o : Obj) : WtI w D F T v xs (wr.alloc o) := h.step ((Below.refl _ _).alloc (Nat.le_refl _) o)
theorem WtI.grow {w wr w2 : World} {D : Nat} {F T : Int} {v v2 : Value} {xs : List Int} {y : Int} (h : WtI w D F T v xs wr) (ho : w2.ownsRow (D + 1) 3 1 v2 (xs.length + 1) (xs.map (Value.int .i64) ++ [.int .i64 y])) (hg : wr.grownBy w2 v.ownBlock) : WtI w D F T v2 (xs ++ [y]) w2 := by
  have hlt := h.row.lt
  refine ⟨(hg.block D h.days.lt (fun e => ?_)).trans h.days, by simpa using ho, h.below.grown hg h.below.size (fun g hg' => ?_), h.lo⟩
  · have := (hlt D e.symm).1; omega
  · have := (hlt g hg').1; have := h.lo; omega
theorem rowRead {w : World} {base : Nat} {t : TypeId} {v : Value} {xs : List Int} (h : w.ownsRow base t 1 v xs.length (xs.map (Value.int .i64))) (hn : 0 < xs.length) :
    ∃ p cap, v = .slice (some ⟨p, 0, none⟩) xs.length cap ∧ base ≤ p ∧ p < w.heap.size ∧ ∀ i (hi : i < xs.length), w.cell? ⟨p, i, none⟩ = some (.int .i64 xs[i]) := by
  rcases h.2 with ⟨_, h0⟩ | ⟨g, cap, cur, rfl, hb, hg, _⟩
  · omega
  · refine ⟨g, cap, rfl, hb, (Array.getElem?_eq_some_iff.1 hg).1, fun i hi => ?_⟩
    have := h.cells (g := g) rfl i (.int .i64 xs[i]) (by simp [hi])
    have e : (⟨g, 0, none⟩ : Addr).add i = ⟨g, i, none⟩ := by unfold Addr.add; split <;> simp_all
    rwa [e] at this
/-- The weights of the first parts. -/
noncomputable def wl (mt : Int) (Z : List Int) (g : Nat → Int) (F T : Int) (n i : Nat) : List Int := (List.range i).map (wtF mt Z g F T n)
theorem wl_len (mt : Int) (Z : List Int) (g : Nat → Int) (F T : Int) (n i : Nat) : (wl mt Z g F T n i).length = i := by simp [wl]
theorem wl_succ (mt : Int) (Z : List Int) (g : Nat → Int) (F T : Int) (n i : Nat) : wl mt Z g F T n (i + 1) = wl mt Z g F T n i ++ [wtF mt Z g F T n i] := by simp [wl, List.range_succ]
theorem pw_at (mt : Int) (hs : List Cal.Hol) (g : Nat → Int) (F T : Int) (n i : Nat) (ha : Option Addr) (hn hcap : Nat) (hn1 : hn ≤ 1024) (hp : PartOk mt hs F T) (hd : dvP g F T n) (hi : i < n) (w : World) (hr : HolRow w w.heap.size ha hn hs) (hl : LgIs w) :
    Calls Tryz.prog 39 #[.int .i64 (bnd g F T n i), .int .i64 (g i - 1), .agg #[.int .i64 F, .int .i64 T], .int .i64 mt, .slice ha hn hcap] w (RetI (wtF mt (Cal.nmAll hs) g F T n i) w) := by
  have b := bnd_in hp.le hd (i := i) (by omega)
  have c := hd i hi
  have h := pw_any mt hs (bnd g F T n i) (g i - 1) F T ha hn hcap hn1 hp b.1 (by omega) (by omega) w hr hl
  rw [show g i - 1 - bnd g F T n i + 1 = bnd g F T n (i + 1) - bnd g F T n i by rw [bnd_cut _ _ _ _ _ hi]; omega] at h
  exact h
theorem pw_last (mt : Int) (hs : List Cal.Hol) (g : Nat → Int) (F T : Int) (n : Nat) (ha : Option Addr) (hn hcap : Nat) (hn1 : hn ≤ 1024) (hp : PartOk mt hs F T) (hd : dvP g F T n) (w : World) (hr : HolRow w w.heap.size ha hn hs) (hl : LgIs w) :
    Calls Tryz.prog 39 #[.int .i64 (bnd g F T n n), .int .i64 T, .agg #[.int .i64 F, .int .i64 T], .int .i64 mt, .slice ha hn hcap] w (RetI (wtF mt (Cal.nmAll hs) g F T n n) w) := by
  have b := bnd_in hp.le hd (i := n) (by omega)
  have h := pw_any mt hs (bnd g F T n n) T F T ha hn hcap hn1 hp b.1 b.2 (by omega) w hr hl
  rw [show T - bnd g F T n n + 1 = bnd g F T n (n + 1) - bnd g F T n n by rw [bnd_end]; omega] at h
  exact h
set_option maxRecDepth 100000 in
set_option maxHeartbeats 4000000 in
theorem pwts_sp (k a n mt : Int) (ca : Option Addr) (cn ccap : Nat) (ha : Option Addr) (hn hcap : Nat) (h : ¬ spP k a n) (w : World) (hl : LgIs w) :
    Calls Tryz.prog 22 #[.agg #[.int .i64 k, .int .i64 a], .int .i64 n, .slice ca cn ccap, .int .i64 mt, .slice ha hn hcap] w (WtsE 2 w) := by
  have C1 := Lib.hid (fun w hl => pspan_no k a n h w hl)
  have hl0 := hl.below ((Below.refl _ _).alloc (Nat.le_refl _) (.cells #[.int .i64 k, .int .i64 a] 27))
  clear hl h
  go_enter Tryz.func22, Tryz.ntmps22
  go_wp2_with fail
  have R := Box2.new w 27 k a
  refine (C1.out _ hl0).mono ?_
  rintro e w1 ⟨rfl, hw1⟩
  have R1 := R.step hw1
  have hB1 : Below w.heap.size w w1 := Below.trans ((Below.refl w.heap.size w).alloc (Nat.le_refl _) _) (hw1.mono (by simp))
  clear hw1 R hl0
  go_wp2_with fail
  go_ret2
  exact ⟨rfl, hB1.alloc hB1.size _⟩
set_option maxRecDepth 100000 in
set_option maxHeartbeats 4000000 in
theorem pwts_m1 (k a n mt : Int) (ca : Option Addr) (cn ccap : Nat) (ha : Option Addr) (hn hcap : Nat) (h : spP k a n) (hm : mt < 0 ∨ 2 < mt) (w : World) (hl : LgIs w) :
    Calls Tryz.prog 22 #[.agg #[.int .i64 k, .int .i64 a], .int .i64 n, .slice ca cn ccap, .int .i64 mt, .slice ha hn hcap] w (WtsE 2 w) := by
  have C1 := Lib.hid (fun w hl => pspan_yes k a n h w hl)
  have sp := span_bd k a n h.2.1 h.2.2
  clear h
  generalize sF k a n = F at *
  generalize sT k a n = T at *
  have hl0 := hl.below ((Below.refl _ _).alloc (Nat.le_refl _) (.cells #[.int .i64 k, .int .i64 a] 27))
  clear hl sp
  go_enter Tryz.func22, Tryz.ntmps22
  go_wp2_with fail
  have R := Box2.new w 27 k a
  refine (C1.out _ hl0).mono ?_
  rintro e w1 ⟨rfl, hw1⟩
  have R1 := R.step hw1
  have hB1 : Below w.heap.size w w1 := Below.trans ((Below.refl w.heap.size w).alloc (Nat.le_refl _) _) (hw1.mono (by simp))
  clear hw1 R hl0
  have zk := (R1.alloc (.cells #[.int .i64 F, .int .i64 T] 34)).c0
  clear R1
  go_wp2_with (go_at_call 36; (with_reducible refine (pwithin_no _ _ _ hm _).mono ?_); rintro e w' ⟨rfl, rfl⟩)
  go_ret2
  exact ⟨rfl, hB1.alloc hB1.size _⟩
set_option maxRecDepth 100000 in
set_option maxHeartbeats 4000000 in
theorem pwts_m2 (k a n mt : Int) (ca : Option Addr) (cn ccap : Nat) (ha : Option Addr) (hn hcap : Nat) (h : spP k a n) (hm : (mt == 2) = true) (hk : (k != 0) = true) (w : World) (hl : LgIs w) :
    Calls Tryz.prog 22 #[.agg #[.int .i64 k, .int .i64 a], .int .i64 n, .slice ca cn ccap, .int .i64 mt, .slice ha hn hcap] w (WtsE 2 w) := by
  have C1 := Lib.hid (fun w hl => pspan_yes k a n h w hl)
  have sp := span_bd k a n h.2.1 h.2.2
  clear h
  generalize sF k a n = F at *
  generalize sT k a n = T at *
  have m0 : 0 ≤ mt := by simp at hm; omega
  have m1 : mt ≤ 2 := by simp at hm; omega
  have hl0 := hl.below ((Below.refl _ _).alloc (Nat.le_refl _) (.cells #[.int .i64 k, .int .i64 a] 27))
  clear hl sp
  go_enter Tryz.func22, Tryz.ntmps22
  go_wp2_with fail
  have R := Box2.new w 27 k a
  refine (C1.out _ hl0).mono ?_
  rintro e w1 ⟨rfl, hw1⟩
  have R1 := R.step hw1
  have hB1 : Below w.heap.size w w1 := Below.trans ((Below.refl w.heap.size w).alloc (Nat.le_refl _) _) (hw1.mono (by simp))
  clear hw1 R hl0
  have zk := (R1.alloc (.cells #[.int .i64 F, .int .i64 T] 34)).c0
  clear R1
  go_wp2_with (go_at_call 36; (with_reducible refine (pwithin_yes _ _ _ m0 m1 _).mono ?_); rintro e w' ⟨rfl, rfl⟩)
  go_ret2
  exact ⟨rfl, hB1.alloc hB1.size _⟩
set_option maxRecDepth 100000 in
set_option maxHeartbeats 4000000 in
theorem pwts_cut (k a n mt : Int) (ca : Option Addr) (cn ccap : Nat) (g : Nat → Int) (ha : Option Addr) (hn hcap : Nat) (hs : List Cal.Hol) (h : spP k a n) (hm0 : 0 ≤ mt) (hm1 : mt ≤ 2) (hmk : (mt == 2) = false ∨ ((mt == 2) = true ∧ (k != 0) = false)) (b : Nat) (hc : cn ≤ 1000000) (hb : b < cn) (ho : ∀ i, i < b → bnd g (sF k a n) (sT k a n) cn i < g i ∧ g i ≤ sT k a n) (hbad : g b ≤ bnd g (sF k a n) (sT k a n) cn b ∨ sT k a n < g b) (w : World) (hr : CutRow w w.heap.size ca cn g) (hl : LgIs w) :
    Calls Tryz.prog 22 #[.agg #[.int .i64 k, .int .i64 a], .int .i64 n, .slice ca cn ccap, .int .i64 mt, .slice ha hn hcap] w (WtsE 1 w) := by
  have C1 := Lib.hid (fun w hl => pspan_yes k a n h w hl)
  have sp := span_bd k a n h.2.1 h.2.2
  clear h
  generalize sF k a n = F at *
  generalize sT k a n = T at *
  have C2 : Hid (∀ w, CutRow w w.heap.size ca cn g → Calls Tryz.prog 37 #[.slice ca cn ccap, .agg #[.int .i64 F, .int .i64 T]] w (RetV (.bool false) w)) := Lib.hid fun w hr => pdiv_any ca cn ccap b g F T false (by omega) (by omega) (by omega) (by omega) (by omega) ho (.inr ⟨rfl, hb, hbad⟩) w hr
  have hl0 := hl.below ((Below.refl _ _).alloc (Nat.le_refl _) (.cells #[.int .i64 k, .int .i64 a] 27))
  clear hl sp ho hbad
  rcases hmk with hmk | ⟨hmk, hkk⟩
  all_goals
    go_enter Tryz.func22, Tryz.ntmps22
    go_wp2_with fail
    have R := Box2.new w 27 k a
    refine (C1.out _ hl0).mono ?_
    rintro e w1 ⟨rfl, hw1⟩
    have R1 := R.step hw1
    have hB1 : Below w.heap.size w w1 := Below.trans ((Below.refl w.heap.size w).alloc (Nat.le_refl _) _) (hw1.mono (by simp))
    clear hw1 R hl0
    have zk := (R1.alloc (.cells #[.int .i64 F, .int .i64 T] 34)).c0
    have hD := Box2.new w1 34 F T
    have hBd : Below w.heap.size w (w1.alloc (.cells #[.int .i64 F, .int .i64 T] 34)) := hB1.alloc hB1.size _
    have d0 := hD.c0
    have d1 := hD.c1
    have hrc := (hr.below hBd).more (B' := (w1.alloc (.cells #[.int .i64 F, .int .i64 T] 34)).heap.size) hBd.size
    clear R1
    go_wp2_with (go_at_call 36; (with_reducible refine (pwithin_yes _ _ _ hm0 hm1 _).mono ?_); rintro e w' ⟨rfl, rfl⟩)
    refine (C2.out _ hrc).mono ?_
    rintro e w2 ⟨rfl, hw2⟩
    have hB2 := hBd.trans (hw2.mono hBd.size)
    have hD2 := hD.step hw2
    have hB1s : w.heap.size ≤ w1.heap.size := hB1.size
    clear hw2 hD hBd hB1 d0 d1 zk hrc
    go_wp2_with fail
    go_ret2
    exact ⟨rfl, hB2⟩
set_option maxRecDepth 100000 in
set_option maxHeartbeats 4000000 in
theorem pwts_hol (k a n mt : Int) (ca : Option Addr) (cn ccap : Nat) (g : Nat → Int) (ha : Option Addr) (hn hcap : Nat) (hs : List Cal.Hol) (h : spP k a n) (hm0 : 0 ≤ mt) (hm1 : mt ≤ 2) (hmk : (mt == 2) = false ∨ ((mt == 2) = true ∧ (k != 0) = false)) (hc : cn ≤ 1000000) (hd : dvP g (sF k a n) (sT k a n) cn) (hn1 : hn ≤ 1024) (hv : hs.all Cal.Hol.ok = false) (w : World) (hr : CutRow w w.heap.size ca cn g) (hh : HolRow w w.heap.size ha hn hs) (hl : LgIs w) :
    Calls Tryz.prog 22 #[.agg #[.int .i64 k, .int .i64 a], .int .i64 n, .slice ca cn ccap, .int .i64 mt, .slice ha hn hcap] w (WtsE 1 w) := by
  have C3 := Lib.hid (fun w hr hl => pvalidL_of ha hn hcap hs hn1 1 (vl_bad hv) w hr hl)
  have C1 := Lib.hid (fun w hl => pspan_yes k a n h w hl)
  have sp := span_bd k a n h.2.1 h.2.2
  clear h
  generalize sF k a n = F at *
  generalize sT k a n = T at *
  have C2 : Hid (∀ w, CutRow w w.heap.size ca cn g → Calls Tryz.prog 37 #[.slice ca cn ccap, .agg #[.int .i64 F, .int .i64 T]] w (RetV (.bool true) w)) := Lib.hid fun w hr => pdiv_any ca cn ccap cn g F T true (by omega) (by omega) (by omega) (by omega) (by omega) hd (.inl ⟨rfl, rfl⟩) w hr
  have hl0 := hl.below ((Below.refl _ _).alloc (Nat.le_refl _) (.cells #[.int .i64 k, .int .i64 a] 27))
  clear sp hd
  rcases hmk with hmk | ⟨hmk, hkk⟩
  all_goals
    go_enter Tryz.func22, Tryz.ntmps22
    go_wp2_with fail
    have R := Box2.new w 27 k a
    refine (C1.out _ hl0).mono ?_
    rintro e w1 ⟨rfl, hw1⟩
    have R1 := R.step hw1
    have hB1 : Below w.heap.size w w1 := Below.trans ((Below.refl w.heap.size w).alloc (Nat.le_refl _) _) (hw1.mono (by simp))
    clear hw1 R hl0
    have zk := (R1.alloc (.cells #[.int .i64 F, .int .i64 T] 34)).c0
    have hD := Box2.new w1 34 F T
    have hBd : Below w.heap.size w (w1.alloc (.cells #[.int .i64 F, .int .i64 T] 34)) := hB1.alloc hB1.size _
    have d0 := hD.c0
    have d1 := hD.c1
    have hrc := (hr.below hBd).more (B' := (w1.alloc (.cells #[.int .i64 F, .int .i64 T] 34)).heap.size) hBd.size
    clear R1
    go_wp2_with (go_at_call 36; (with_reducible refine (pwithin_yes _ _ _ hm0 hm1 _).mono ?_); rintro e w' ⟨rfl, rfl⟩)
    refine (C2.out _ hrc).mono ?_
    rintro e w2 ⟨rfl, hw2⟩
    have hB2 := hBd.trans (hw2.mono hBd.size)
    have hD2 := hD.step hw2
    have hB1s : w.heap.size ≤ w1.heap.size := hB1.size
    clear hw2 hD hBd hB1 d0 d1 zk hrc
    have hrh := (hh.below hB2).more (B' := w2.heap.size) hB2.size
    have hl2 := hl.below hB2
    go_wp2_with fail
    refine (C3.out _ hrh hl2).mono ?_
    rintro e w3 ⟨rfl, hw3⟩
    have hB3 := hB2.trans (hw3.mono hB2.size)
    have hD3 := hD2.step hw3
    clear hw3 hD2 hB2 hrh hl2
    go_wp2_with fail
    go_ret2
    exact ⟨rfl, hB3⟩
set_option maxRecDepth 100000 in
set_option maxHeartbeats 4000000 in
theorem pwts_ok (k a n mt : Int) (ca : Option Addr) (cn ccap : Nat) (g : Nat → Int) (ha : Option Addr) (hn hcap : Nat) (hs : List Cal.Hol) (h : spP k a n) (hm0 : 0 ≤ mt) (hm1 : mt ≤ 2) (hmk : (mt == 2) = false ∨ ((mt == 2) = true ∧ (k != 0) = false)) (hc : cn ≤ 1000000) (hd : dvP g (sF k a n) (sT k a n) cn) (hn1 : hn ≤ 1024) (hv : hs.all Cal.Hol.ok = true) (hp : PartOk mt hs (sF k a n) (sT k a n)) (w : World) (hr : CutRow w w.heap.size ca cn g) (hh : HolRow w w.heap.size ha hn hs) (hl : LgIs w) :
    Calls Tryz.prog 22 #[.agg #[.int .i64 k, .int .i64 a], .int .i64 n, .slice ca cn ccap, .int .i64 mt, .slice ha hn hcap] w (WtsR cn (wtF mt (Cal.nmAll hs) g (sF k a n) (sT k a n) cn) w) := by
  have C3 := Lib.hid (fun w hr hl => pvalidL_of ha hn hcap hs hn1 0 (vl_ok hv) w hr hl)
  have C1 := Lib.hid (fun w hl => pspan_yes k a n h w hl)
  have sp := span_bd k a n h.2.1 h.2.2
  clear h
  generalize sF k a n = F at *
  generalize sT k a n = T at *
  have HP := Lib.hid hp
  have HD := Lib.hid hd
  have HR := Lib.hid hr
  have HH := Lib.hid hh
  have HLL := Lib.hid hl
  have C4 := Lib.hid (fun i hi w hr hl => pw_at mt hs g F T cn i ha hn hcap hn1 hp hd hi w hr hl)
  have C5 := Lib.hid (fun w hr hl => pw_last mt hs g F T cn ha hn hcap hn1 hp hd w hr hl)
  have C2 : Hid (∀ w, CutRow w w.heap.size ca cn g → Calls Tryz.prog 37 #[.slice ca cn ccap, .agg #[.int .i64 F, .int .i64 T]] w (RetV (.bool true) w)) := Lib.hid fun w hr => pdiv_any ca cn ccap cn g F T true (by omega) (by omega) (by omega) (by omega) (by omega) hd (.inl ⟨rfl, rfl⟩) w hr
  have hl0 := hl.below ((Below.refl _ _).alloc (Nat.le_refl _) (.cells #[.int .i64 k, .int .i64 a] 27))
  have hmake := make_cap cn hc
  obtain ⟨i0, hi0, hz0, hz1, hz2⟩ := info_parts infoI
  have HI := Lib.hid (show ∃ i0 : TypeInfo, Tryz.prog.info? 3 = some i0 ∧ i0.zero = some (.int .i64 0) ∧ i0.size = 1 ∧ i0.bytes = 8 from ⟨i0, hi0, hz0, hz1, hz2⟩)
  clear hi0 hz0 hz1 hz2 i0 hd hp
  obtain ⟨s0, s1, s2, s3⟩ := sp
  rcases hmk with hmk | ⟨hmk, hkk⟩
  all_goals
    go_enter Tryz.func22, Tryz.ntmps22
    go_wp2_with fail
    have R := Box2.new w 27 k a
    refine (C1.out _ hl0).mono ?_
    rintro e w1 ⟨rfl, hw1⟩
    have R1 := R.step hw1
    have hB1 : Below w.heap.size w w1 := Below.trans ((Below.refl w.heap.size w).alloc (Nat.le_refl _) _) (hw1.mono (by simp))
    clear hw1 R hl0
    have zk := (R1.alloc (.cells #[.int .i64 F, .int .i64 T] 34)).c0
    have hD := Box2.new w1 34 F T
    have hBd : Below w.heap.size w (w1.alloc (.cells #[.int .i64 F, .int .i64 T] 34)) := hB1.alloc hB1.size _
    have d0 := hD.c0
    have d1 := hD.c1
    have hrc := (hr.below hBd).more (B' := (w1.alloc (.cells #[.int .i64 F, .int .i64 T] 34)).heap.size) hBd.size
    clear R1
    go_wp2_with (go_at_call 36; (with_reducible refine (pwithin_yes _ _ _ hm0 hm1 _).mono ?_); rintro e w' ⟨rfl, rfl⟩)
    refine (C2.out _ hrc).mono ?_
    rintro e w2 ⟨rfl, hw2⟩
    have hB2 := hBd.trans (hw2.mono hBd.size)
    have hD2 := hD.step hw2
    have hB1s : w.heap.size ≤ w1.heap.size := hB1.size
    clear hw2 hD hBd hB1 d0 d1 zk hrc
    have hrh := (hh.below hB2).more (B' := w2.heap.size) hB2.size
    have hl2 := hl.below hB2
    go_wp2_with fail
    refine (C3.out _ hrh hl2).mono ?_
    rintro e w3 ⟨rfl, hw3⟩
    have hB3 := hB2.trans (hw3.mono hB2.size)
    have hD3 := hD2.step hw3
    clear hw3 hD2 hB2 hrh hl2
    have I4 : WtI w w1.heap.size F T (.slice (some ⟨w3.heap.size, 0, none⟩) 0 (cn + 1)) [] (w3.alloc (.cells (zerosN (cn + 1)) 3)) :=
      ⟨hD3.alloc _, World.ownsRow_made _ _ _ hD3.lt (by unfold maxLen; omega) (size_madeCells _ _), hB3.alloc hB3.size _, hB1s⟩
    have d0 := I4.days.c0
    have d1 := I4.days.c1
    have HI4 := Lib.hid I4
    clear I4 hD3 hB3 hr hh hl
    go_wp2_with fail
    clear hmake
    go_loopw [15, 16, 57] (fun x f z wr => ∃ i : Nat, i ≤ cn ∧ z = .int .i64 i ∧ f = .int .i64 (bnd g F T cn i) ∧ Hid (WtI w w1.heap.size F T x (wl mt (Cal.nmAll hs) g F T cn i) wr)) (fun _ _ z _ => cn - (intOf z).toNat)
    case atStart => exact ⟨0, by omega, rfl, by rw [bnd_0], HI4⟩
    case round =>
      clear HI4 d0 d1
      obtain ⟨i, hi, rfl, rfl, HW⟩ := hrel
      have hb := HW.out.below
      have hl4 := HLL.out.below hb
      have hh4 := (HH.out.below hb).more (B' := wr.heap.size) hb.size
      have d0 := HW.out.days.c0
      have d1 := HW.out.days.c1
      have sz4 : w1.heap.size < wr.heap.size := HW.out.days.lt
      by_cases hlt : i < cn
      · obtain ⟨x, hx0, hx, hcc⟩ := HR.out.below hb (by omega)
        have c := hcc i hlt
        have q := HD.out i hlt
        have q2 := bnd_in HP.out.le HD.out (i := i) (by omega)
        obtain ⟨q0, q1⟩ := q
        obtain ⟨q2, q3⟩ := q2
        have E := Lib.hid (bnd_cut g F T cn i hlt)
        have C := C4.out i hlt
        have CC := Lib.hid C
        have ES := Lib.hid (wl_succ mt (Cal.nmAll hs) g F T cn i)
        have EL := Lib.hid (wl_len mt (Cal.nmAll hs) g F T cn i)
        clear hcc C hb
        subst hx0
        generalize wtF mt (Cal.nmAll hs) g F T cn i = V at *
        generalize bnd g F T cn i = bi at *
        generalize hgi : g i = gi at *
        have HG := Lib.hid hgi
        clear hgi
        go_wp2_with fail
        refine (CC.out _ hh4 hl4).mono ?_
        rintro e w5 ⟨rfl, hw5⟩
        have IW := Lib.hid (HW.out.step hw5)
        have s5 : w1.heap.size + 1 ≤ w5.heap.size := IW.out.days.lt
        clear hw5 d0 d1 hl4 hh4 c
        obtain ⟨i0, hi0, hz0, hz1, hz2⟩ := HI.out
        have ELL : (wl mt (Cal.nmAll hs) g F T cn i).length ≤ 1000000 := by rw [EL.out]; omega
        go_wp2_with (at_builtin; refine wpList_append_own _ rfl _ _ 22 rfl (w1.heap.size + 1) 3 i0 (.int .i64 0) 1 8 Tryz.underlying22 hi0 hz0 hz1 hz2 rfl (by decide) _ _ _ rfl (IW.out.row.alloc _) ⟨w5.heap.size, 0, none⟩ 1 1 [.int .i64 V] rfl rfl ?c1 ?c2 ?c3 ?c4 ?c5 ?_)
        case c1 =>
          intro j u hu
          rcases j with _ | j
          · have e : u = .int .i64 V := by simpa using hu.symm
            subst e; go_simp
          · simp at hu
        case c2 => intro u hu; rw [List.mem_singleton] at hu; subst hu; rfl
        case c3 => unfold maxLen; omega
        case c4 => omega
        case c5 => simp; omega
        intro v2 w6 hown hgrow _
        have I6 := (IW.out.alloc (.cells #[.int .i64 V] 3)).grow hown hgrow
        have HI6 := Lib.hid I6
        clear hown hgrow I6 hz0 hz1 hz2 hi0

        clear ELL
        go_wp2_with fail
        go_roundw
        case rel => exact ⟨i + 1, by omega, by go_num, by rw [E.out], Lib.hid (by rw [ES.out]; exact HI6.out)⟩
        case measure => simp [intOf]; omega
      · obtain rfl : i = cn := by omega
        have CC := C5
        have q2 := bnd_in HP.out.le HD.out (i := i) (by omega)
        obtain ⟨q2, q3⟩ := q2
        have ES := Lib.hid (wl_succ mt (Cal.nmAll hs) g F T i i)
        have EL := Lib.hid (wl_len mt (Cal.nmAll hs) g F T i i)
        have hV : ∀ j (hj : j ≤ i) (hl : j < (wl mt (Cal.nmAll hs) g F T i (i + 1)).length), (wl mt (Cal.nmAll hs) g F T i (i + 1))[j] = wtF mt (Cal.nmAll hs) g F T i j := fun j hj hl => by simp [wl]
        have HV := Lib.hid hV
        clear hb hV
        have HBN := Lib.hid (show bnd g F T i i = bnd g F T i i from rfl)
        generalize hVV : wtF mt (Cal.nmAll hs) g F T i i = V at *
        have HVV := Lib.hid hVV
        clear hVV HBN
        generalize bnd g F T i i = bi at *
        go_wp2_with fail
        refine (CC.out _ hh4 hl4).mono ?_
        rintro e w5 ⟨rfl, hw5⟩
        have IW := Lib.hid (HW.out.step hw5)
        have s5 : w1.heap.size + 1 ≤ w5.heap.size := IW.out.days.lt
        clear hw5 d0 d1 hl4 hh4
        obtain ⟨i0, hi0, hz0, hz1, hz2⟩ := HI.out
        have ELL : (wl mt (Cal.nmAll hs) g F T i i).length ≤ 1000000 := by rw [EL.out]; omega
        go_wp2_with (at_builtin; refine wpList_append_own _ rfl _ _ 22 rfl (w1.heap.size + 1) 3 i0 (.int .i64 0) 1 8 Tryz.underlying22 hi0 hz0 hz1 hz2 rfl (by decide) _ _ _ rfl (IW.out.row.alloc _) ⟨w5.heap.size, 0, none⟩ 1 1 [.int .i64 V] rfl rfl ?e1 ?e2 ?e3 ?e4 ?e5 ?_)
        case e1 =>
          intro j u hu
          rcases j with _ | j
          · have e : u = .int .i64 V := by simpa using hu.symm
            subst e; go_simp
          · simp at hu
        case e2 => intro u hu; rw [List.mem_singleton] at hu; subst hu; rfl
        case e3 => unfold maxLen; omega
        case e4 => omega
        case e5 => simp; omega
        intro v2 w6 hown hgrow _
        have I6 := (IW.out.alloc (.cells #[.int .i64 V] 3)).grow hown hgrow
        have HI6 := Lib.hid I6
        clear hown hgrow I6 hz0 hz1 hz2 hi0

        clear ELL
        go_wp2_with fail
        go_ret2
        have I7 := HI6.out
        rw [← ES.out] at I7
        have hlen := wl_len mt (Cal.nmAll hs) g F T i (i + 1)
        obtain ⟨p, cap, hvv, hp1, hp2, hp3⟩ := rowRead I7.row (by rw [hlen]; omega)
        rw [hlen] at hvv
        subst hvv
        exact ⟨p, cap, rfl, by have := I7.lo; omega, hp2, fun j hj => by rw [hp3 j (by rw [hlen]; omega), HV.out j hj], I7.below⟩
end Go.Proofs.YtmgglcfndhfceaaGreatDoor.Per
