/-
  Layer 5 (period): contracts of Portions, and of Divide where the weights are all 0. Conditions: the contract of Weights at its call.
-/
import Derived.Test.YtmgglcfndhfceaaGreatDoorPrYf
import Derived.Test.YtmgglcfndhfceaaGreatDoorPrNew
namespace Go.Proofs.YtmgglcfndhfceaaGreatDoor.Per
open Go Go.RowKit Go.Lib Go.Sort Go.Shelf Go.Proofs Go.Proofs.YtmgglcfndhfceaaGreatDoor Go.Proofs.YtmgglcfndhfceaaGreatDoor.Cal Go.Proofs.YtmgglcfndhfceaaGreatDoor.Mg
set_option linter.unusedVariables false

theorem newT_small (x s : Int) (x0 : 0 ≤ x) (x1 : x ≤ 1000) (s1 : 1 ≤ s) (s2 : s ≤ 1000) : (newT x s).2.2 = 0 := by
  have e := newT_fit x s false false (by omega) (decide_eq_false (by omega)) (decide_eq_false (by omega))
  rw [e]
  unfold fitT
  have a : x.natAbs / Nat.gcd x.natAbs s.natAbs ≤ x.natAbs := Nat.div_le_self _ _
  have b : s.natAbs / Nat.gcd x.natAbs s.natAbs ≤ s.natAbs := Nat.div_le_self _ _
  rw [cutT_ok _ _ _ (by omega) (by omega)]
/-- Rows of pairs in a block of the call's own. -/
structure RowP (w : World) (b n : Nat) (f g : Nat → Int) : Prop where
  c0 : ∀ i, i < n → w.cell? ⟨b, i * 2, none⟩ = some (.int .i64 (f i))
  c1 : ∀ i, i < n → w.cell? ⟨b, i * 2 + 1, none⟩ = some (.int .i64 (g i))
  fr : ∀ j, j < n * 2 → w.frozen? ⟨b, j, none⟩ = false
theorem RowP.keep {w w' : World} {b n : Nat} {f g : Nat → Int} (h : RowP w b n f g) (hb : w'.heap[b]? = w.heap[b]?) : RowP w' b n f g :=
  ⟨fun i hi => (World.cell?_of_block (a := ⟨b, i * 2, none⟩) hb).trans (h.c0 i hi), fun i hi => (World.cell?_of_block (a := ⟨b, i * 2 + 1, none⟩) hb).trans (h.c1 i hi), fun j hj => (World.frozen?_of_block (a := ⟨b, j, none⟩) hb).trans (h.fr j hj)⟩
theorem RowP.below {w w' : World} {b n B : Nat} {f g : Nat → Int} (h : RowP w b n f g) (hb : Below B w w') (hB : b < B) : RowP w' b n f g := h.keep (hb.block b hB)
theorem RowP.set {w : World} {b n : Nat} {f g : Nat → Int} (h : RowP w b n f g) {k : Nat} (hk : k < n) (u v : Int) :
    RowP ((w.setCell ⟨b, k * 2, none⟩ (.int .i64 u)).setCell ⟨b, k * 2 + 1, none⟩ (.int .i64 v)) b n (fun i => if i = k then u else f i) (fun i => if i = k then v else g i) := by
  have a0 := h.c0 k hk
  have a1 := h.c1 k hk
  have ne : ∀ (i j : Nat), i ≠ j → (⟨b, i, none⟩ : Addr) ≠ ⟨b, j, none⟩ := fun i j hij e => hij (by injection e)
  have o1 : ∀ (W : World) (i j : Nat) (v : Value), i ≠ j → (W.setCell ⟨b, i, none⟩ v).cell? ⟨b, j, none⟩ = W.cell? ⟨b, j, none⟩ := fun W i j v hij => World.cell?_setCell_other _ _ _ _ (ne i j hij)
  refine ⟨fun i hi => ?_, fun i hi => ?_, fun j hj => by rw [World.frozen?_setCell, World.frozen?_setCell]; exact h.fr j hj⟩
  · by_cases e : i = k
    · subst e
      rw [if_pos rfl, o1 _ _ _ _ (show i * 2 + 1 ≠ i * 2 by omega)]
      exact World.cell?_setCell_same _ _ _ a0
    · rw [if_neg e, o1 _ _ _ _ (show k * 2 + 1 ≠ i * 2 by omega), o1 _ _ _ _ (show k * 2 ≠ i * 2 by omega)]
      exact h.c0 i hi
  · by_cases e : i = k
    · subst e
      rw [if_pos rfl]
      exact World.cell?_setCell_same _ _ _ ((o1 _ _ _ _ (show i * 2 ≠ i * 2 + 1 by omega)).trans a1)
    · rw [if_neg e, o1 _ _ _ _ (show k * 2 + 1 ≠ i * 2 + 1 by omega), o1 _ _ _ _ (show k * 2 ≠ i * 2 + 1 by omega)]
      exact h.c1 i hi
theorem RowP.congr {w : World} {b n : Nat} {f g f' g' : Nat → Int} (h : RowP w b n f g) (e : ∀ i, i < n → f i = f' i) (e' : ∀ i, i < n → g i = g' i) : RowP w b n f' g' :=
  ⟨fun i hi => by rw [← e i hi]; exact h.c0 i hi, fun i hi => by rw [← e' i hi]; exact h.c1 i hi, h.fr⟩
def zerosP (n : Nat) : Array Value := madeCells (Value.agg #[.int .i64 0, .int .i64 0]).cells (n * 2)
theorem zerosP_at (n j : Nat) (hj : j < n * 2) : (zerosP n)[j]? = some (.int .i64 0) := by
  unfold zerosP madeCells
  have : j % 2 = 0 ∨ j % 2 = 1 := by omega
  rcases this with h | h <;> simp [Value.cells, hj, h]
theorem RowP.new (w : World) (n : Nat) (t : TypeId) : RowP (w.alloc (.cells (zerosP n) t)) w.heap.size n (fun _ => 0) (fun _ => 0) :=
  ⟨fun i hi => by rw [World.cell?_alloc_at _ _ _ _ rfl]; exact zerosP_at n _ (by omega), fun i hi => by rw [World.cell?_alloc_at _ _ _ _ rfl]; exact zerosP_at n _ (by omega), fun j hj => World.frozen?_alloc_at _ _ _ _ rfl⟩
theorem info_rat : (Tryz.prog.info? 61).map (fun i => (i.zero, i.size, i.bytes)) = some (some (.agg #[.int .i64 0, .int .i64 0]), 2, 16) := by kernel_rfl
theorem makeP_run (n : Nat) (hn : n ≤ 1000000) (w : World) :
    (Instr.makeSlice 56 (.int .i64 (n : Int)) (.int .i64 (n : Int))).run Tryz.prog w = .ok (.slice (some ⟨w.heap.size, 0, none⟩) n n) (w.alloc (.cells (zerosP n) 61)) := by
  obtain ⟨i0, hi, hz0, hz1, hz2⟩ := info_parts info_rat
  have h := run_make (P := Tryz.prog) w 56 61 i0 (.agg #[.int .i64 0, .int .i64 0]) Tryz.underlying56 hi hz0 .i64 .i64 (n : Int) (n : Int) (by omega) (by omega) (by rw [hz2]; omega) (by omega)
  rw [hz1] at h
  simpa [zerosP] using h
theorem makeP_run1 (n : Nat) (hn : n + 1 ≤ 1000000) (w : World) :
    (Instr.makeSlice 56 (.int .i64 ((n : Int) + 1)) (.int .i64 ((n : Int) + 1))).run Tryz.prog w = .ok (.slice (some ⟨w.heap.size, 0, none⟩) (n + 1) (n + 1)) (w.alloc (.cells (zerosP (n + 1)) 61)) := by
  have h := makeP_run (n + 1) hn w
  rwa [show ((n + 1 : Nat) : Int) = (n : Int) + 1 by omega] at h
/-- A row of n fractions and no error. -/
def PtR (n : Nat) (f g : Nat → Int) (w : World) (e : Ending) (w' : World) : Prop := ∃ p cap, e = .returned (.tuple #[.slice (some ⟨p, 0, none⟩) n cap, .int .i64 0]) ∧ w.heap.size ≤ p ∧ p < w'.heap.size ∧ (∀ i, i < n → w'.cell? ⟨p, i * 2, none⟩ = some (.int .i64 (f i)) ∧ w'.cell? ⟨p, i * 2 + 1, none⟩ = some (.int .i64 (g i))) ∧ Below w.heap.size w w'
theorem sumTo_small {f : Nat → Int} : ∀ {n : Nat}, (∀ i, i < n → 0 ≤ f i ∧ f i ≤ 1000) → 0 ≤ sumTo f n ∧ sumTo f n ≤ 1000 * n
  | 0, _ => by simp [sumTo]
  | n + 1, h => by
    have a := sumTo_small (n := n) fun i hi => h i (by omega)
    have b := h n (by omega)
    simp only [sumTo]; omega

set_option maxRecDepth 100000 in
set_option maxHeartbeats 2000000 in
theorem ppt_err (k a n mt : Int) (ca : Option Addr) (cn ccap : Nat) (ha : Option Addr) (hn hcap : Nat) (c : Int) (hc : (c == 0) = false) (w : World)
    (C : Calls Tryz.prog 22 #[.agg #[.int .i64 k, .int .i64 a], .int .i64 n, .slice ca cn ccap, .int .i64 mt, .slice ha hn hcap] (w.alloc (.cells #[.int .i64 k, .int .i64 a] 27)) (WtsE c (w.alloc (.cells #[.int .i64 k, .int .i64 a] 27)))) :
    Calls Tryz.prog 24 #[.agg #[.int .i64 k, .int .i64 a], .int .i64 n, .slice ca cn ccap, .int .i64 mt, .slice ha hn hcap] w (WtsE c w) := by
  have CC := Lib.hid C
  clear C
  have hc2 : (c != 0) = true := by rw [bne, hc]; rfl
  go_enter Tryz.func24, Tryz.ntmps24
  go_wp2_with fail
  refine CC.out.mono ?_
  rintro e w1 ⟨rfl, hw1⟩
  go_wp2_with fail
  go_ret2
  exact ⟨rfl, Below.trans ((Below.refl w.heap.size w).alloc (Nat.le_refl _) _) (hw1.mono (by simp))⟩

/-- The loop of Portions: the weights, the row that is filled. -/
structure PtI (w : World) (p q n : Nat) (f : Nat → Int) (s : Int) (i : Nat) (wr : World) : Prop where
  wts : ∀ j, j < n → wr.cell? ⟨p, j, none⟩ = some (.int .i64 (f j))
  row : RowP wr q n (fun j => if j < i then (newT (f j) s).1 else 0) (fun j => if j < i then (newT (f j) s).2.1 else 0)
  below : Below w.heap.size w wr
  plt : p < q
  qlt : q < wr.heap.size
  qlo : w.heap.size ≤ q
theorem PtI.step {w wr w' : World} {p q n : Nat} {f : Nat → Int} {s : Int} {i : Nat} (h : PtI w p q n f s i wr) (hb : Below wr.heap.size wr w') : PtI w p q n f s i w' :=
  ⟨fun j hj => (hb.cell (p := ⟨p, j, none⟩) (Nat.lt_trans h.plt h.qlt)).trans (h.wts j hj), h.row.below hb h.qlt, h.below.trans (hb.mono h.below.size), h.plt, Nat.lt_of_lt_of_le h.qlt hb.size, h.qlo⟩
theorem PtI.set {w wr : World} {p q n : Nat} {f : Nat → Int} {s : Int} {i : Nat} (h : PtI w p q n f s i wr) (hi : i < n) :
    PtI w p q n f s (i + 1) ((wr.setCell ⟨q, i * 2, none⟩ (.int .i64 (newT (f i) s).1)).setCell ⟨q, i * 2 + 1, none⟩ (.int .i64 (newT (f i) s).2.1)) := by
  have hb : ∀ v u, ((wr.setCell ⟨q, i * 2, none⟩ v).setCell ⟨q, i * 2 + 1, none⟩ u).heap[p]? = wr.heap[p]? := fun v u => by
    rw [Below.heap_setCell _ _ _ p (by have := h.plt; show p ≠ q; omega), Below.heap_setCell _ _ _ p (by have := h.plt; show p ≠ q; omega)]
  refine ⟨fun j hj => (World.cell?_of_block (a := ⟨p, j, none⟩) (hb _ _)).trans (h.wts j hj), (h.row.set hi _ _).congr (fun j hj => ?_) (fun j hj => ?_), (h.below.setCell (by exact h.qlo) _).setCell (by exact h.qlo) _, h.plt, by simpa [World.setCell] using h.qlt, h.qlo⟩
  · by_cases e : j = i
    · subst e; rw [if_pos rfl, if_pos (by omega)]
    · rw [if_neg e]
      by_cases c : j < i
      · rw [if_pos c, if_pos (by omega)]
      · rw [if_neg c, if_neg (by omega)]
  · by_cases e : j = i
    · subst e; rw [if_pos rfl, if_pos (by omega)]
    · rw [if_neg e]
      by_cases c : j < i
      · rw [if_pos c, if_pos (by omega)]
      · rw [if_neg c, if_neg (by omega)]

set_option maxRecDepth 100000 in
set_option maxHeartbeats 4000000 in
theorem ppt_pos (s k a n mt : Int) (ca : Option Addr) (cn ccap : Nat) (ha : Option Addr) (hn hcap : Nat) (f : Nat → Int) (hcn : cn ≤ 1000) (fb : ∀ i, i < cn + 1 → 0 ≤ f i ∧ f i ≤ 1000) (hS : sumTo f (cn + 1) = s) (hs : 1 ≤ s) (hs1 : s ≤ 1000) (w : World)
    (C : Calls Tryz.prog 22 #[.agg #[.int .i64 k, .int .i64 a], .int .i64 n, .slice ca cn ccap, .int .i64 mt, .slice ha hn hcap] (w.alloc (.cells #[.int .i64 k, .int .i64 a] 27)) (WtsR cn f (w.alloc (.cells #[.int .i64 k, .int .i64 a] 27)))) :
    Calls Tryz.prog 24 #[.agg #[.int .i64 k, .int .i64 a], .int .i64 n, .slice ca cn ccap, .int .i64 mt, .slice ha hn hcap] w (PtR (cn + 1) (fun i => (newT (f i) s).1) (fun i => (newT (f i) s).2.1) w) := by
  have CC := Lib.hid C
  have FB := Lib.hid fb
  have HS := Lib.hid hS
  have hmk := makeP_run1 cn (by omega)
  clear C fb hS
  go_enter Tryz.func24, Tryz.ntmps24
  go_wp2_with fail
  refine CC.out.mono ?_
  rintro e w1 ⟨p, cap, rfl, hp0, hp1, hrow, hw1⟩
  have HR := Lib.hid hrow
  have hB1 : Below w.heap.size w w1 := Below.trans ((Below.refl w.heap.size w).alloc (Nat.le_refl _) _) (hw1.mono (by simp))
  clear hrow hw1 hp0
  go_wp2_with fail
  go_loop [14, 34] (fun x z => ∃ i : Nat, i ≤ cn + 1 ∧ z = .int .i64 i ∧ x = .int .i64 (sumTo f i)) (fun _ z => cn + 1 - (intOf z).toNat)
  case atStart => exact ⟨0, by omega, rfl, rfl⟩
  case round =>
    obtain ⟨i, hi, rfl, rfl⟩ := hrel
    have b1 := sumTo_small (f := f) (n := i) fun j hj => FB.out j (by omega)
    obtain ⟨b1, b2⟩ := b1
    by_cases hlt : i < cn + 1
    · have c := HR.out i (by omega)
      have fbi := FB.out i hlt
      obtain ⟨f0, f1⟩ := fbi
      have E := Lib.hid (show sumTo f (i + 1) = sumTo f i + f i from rfl)
      clear hmk
      generalize sumTo f i = S at *
      generalize hfi : f i = v at *
      clear hfi
      go_wp2_with fail
      go_round
      case rel => exact ⟨i + 1, by omega, by go_num, by rw [E.out]⟩
      case measure => simp [intOf]; omega
    · obtain rfl : i = cn + 1 := by omega
      rw [HS.out]
      have I0 : PtI w p w1.heap.size (cn + 1) f s 0 (w1.alloc (.cells (zerosP (cn + 1)) 61)) :=
        ⟨fun j hj => ((Below.alloc (Below.refl _ _) (Nat.le_refl _) _).cell (p := ⟨p, j, none⟩) hp1).trans (HR.out j (by omega)), (RowP.new w1 (cn + 1) 61).congr (fun j _ => by rw [if_neg (by omega)]) (fun j _ => by rw [if_neg (by omega)]), hB1.alloc hB1.size _, hp1, by simp, hB1.size⟩
      have HI0 := Lib.hid I0
      clear b1 b2 I0
      go_wp2_with fail
      clear hmk
      go_loopw [47] (fun z wr => ∃ i : Nat, i ≤ cn + 1 ∧ z = .int .i64 i ∧ Hid (PtI w p w1.heap.size (cn + 1) f s i wr)) (fun z _ => cn + 1 - (intOf z).toNat)
      case atStart => exact ⟨0, by omega, rfl, HI0⟩
      case round =>
        clear HI0
        obtain ⟨i, hi, rfl, HI⟩ := hrel
        by_cases hlt : i < cn + 1
        · have c := HI.out.wts i hlt
          obtain ⟨f0, f1⟩ := FB.out i hlt
          have CN := Lib.hid (fun w => new_any (f i) s (by omega) (by omega) (by omega) (by omega) w)
          rw [newT_small (f i) s f0 f1 hs hs1] at CN
          have HSET := Lib.hid (fun wr (h : PtI w p w1.heap.size (cn + 1) f s i wr) => h.set hlt)
          generalize (newT (f i) s).1 = u at CN HSET
          generalize (newT (f i) s).2.1 = v at CN HSET
          generalize hfi : f i = x at c CN f0 f1
          clear hfi
          go_wp2_with fail
          refine (CN.out _).mono ?_
          rintro e w3 ⟨rfl, hw3⟩
          have I3 := HI.out.step hw3
          have k0 := I3.row.c0 i hlt
          have k1 := I3.row.c1 i hlt
          have g0 := I3.row.fr (i * 2) (by omega)
          have g1 := I3.row.fr (i * 2 + 1) (by omega)
          have HI4 := Lib.hid (HSET.out _ I3)
          clear hw3 c I3
          go_wp2_with fail
          go_roundw
          case rel => exact ⟨i + 1, by omega, by go_num, HI4⟩
          case measure => simp [intOf]; omega
        · obtain rfl : i = cn + 1 := by omega
          go_wp2_with fail
          go_ret2
          exact ⟨w1.heap.size, _, rfl, HI.out.qlo, HI.out.qlt, fun j hj => ⟨by have := HI.out.row.c0 j hj; rwa [if_pos hj] at this, by have := HI.out.row.c1 j hj; rwa [if_pos hj] at this⟩, HI.out.below⟩
set_option maxRecDepth 100000 in
set_option maxHeartbeats 4000000 in
theorem ppt_zero (k a n mt : Int) (ca : Option Addr) (cn ccap : Nat) (ha : Option Addr) (hn hcap : Nat) (f : Nat → Int) (hcn : cn ≤ 1000) (fb : ∀ i, i < cn + 1 → 0 ≤ f i ∧ f i ≤ 1000) (hS : sumTo f (cn + 1) = 0) (w : World)
    (C : Calls Tryz.prog 22 #[.agg #[.int .i64 k, .int .i64 a], .int .i64 n, .slice ca cn ccap, .int .i64 mt, .slice ha hn hcap] (w.alloc (.cells #[.int .i64 k, .int .i64 a] 27)) (WtsR cn f (w.alloc (.cells #[.int .i64 k, .int .i64 a] 27)))) :
    Calls Tryz.prog 24 #[.agg #[.int .i64 k, .int .i64 a], .int .i64 n, .slice ca cn ccap, .int .i64 mt, .slice ha hn hcap] w (WtsE 5 w) := by
  have CC := Lib.hid C
  have FB := Lib.hid fb
  have HS := Lib.hid hS
  have hmk := makeP_run1 cn (by omega)
  clear C fb hS
  go_enter Tryz.func24, Tryz.ntmps24
  go_wp2_with fail
  refine CC.out.mono ?_
  rintro e w1 ⟨p, cap, rfl, hp0, hp1, hrow, hw1⟩
  have HR := Lib.hid hrow
  have hB1 : Below w.heap.size w w1 := Below.trans ((Below.refl w.heap.size w).alloc (Nat.le_refl _) _) (hw1.mono (by simp))
  clear hrow hw1 hp0
  go_wp2_with fail
  go_loop [14, 34] (fun x z => ∃ i : Nat, i ≤ cn + 1 ∧ z = .int .i64 i ∧ x = .int .i64 (sumTo f i)) (fun _ z => cn + 1 - (intOf z).toNat)
  case atStart => exact ⟨0, by omega, rfl, rfl⟩
  case round =>
    obtain ⟨i, hi, rfl, rfl⟩ := hrel
    have b1 := sumTo_small (f := f) (n := i) fun j hj => FB.out j (by omega)
    obtain ⟨b1, b2⟩ := b1
    by_cases hlt : i < cn + 1
    · have c := HR.out i (by omega)
      have fbi := FB.out i hlt
      obtain ⟨f0, f1⟩ := fbi
      have E := Lib.hid (show sumTo f (i + 1) = sumTo f i + f i from rfl)
      clear hmk
      generalize sumTo f i = S at *
      generalize hfi : f i = v at *
      clear hfi
      go_wp2_with fail
      go_round
      case rel => exact ⟨i + 1, by omega, by go_num, by rw [E.out]⟩
      case measure => simp [intOf]; omega
    · obtain rfl : i = cn + 1 := by omega
      rw [HS.out]
      have I0 : PtI w p w1.heap.size (cn + 1) f 0 0 (w1.alloc (.cells (zerosP (cn + 1)) 61)) :=
        ⟨fun j hj => ((Below.alloc (Below.refl _ _) (Nat.le_refl _) _).cell (p := ⟨p, j, none⟩) hp1).trans (HR.out j (by omega)), (RowP.new w1 (cn + 1) 61).congr (fun j _ => by rw [if_neg (by omega)]) (fun j _ => by rw [if_neg (by omega)]), hB1.alloc hB1.size _, hp1, by simp, hB1.size⟩
      have HI0 := Lib.hid I0
      clear b1 b2 I0
      go_wp2_with fail
      clear hmk
      go_loopw [47] (fun z wr => z = .int .i64 0 ∧ Hid (PtI w p w1.heap.size (cn + 1) f 0 0 wr)) (fun _ _ => 0)
      case atStart => exact ⟨rfl, HI0⟩
      case round =>
        clear HI0
        obtain ⟨rfl, HI⟩ := hrel
        have c := HI.out.wts 0 (by omega)
        obtain ⟨f0, f1⟩ := FB.out 0 (by omega)
        have CN := Lib.hid (fun w => new_any (f 0) 0 (by omega) (by omega) (by omega) (by omega) w)
        rw [newT_zero] at CN
        generalize hfi : f 0 = x at c CN f0 f1
        clear hfi
        go_wp2_with fail
        refine (CN.out _).mono ?_
        rintro e w3 ⟨rfl, hw3⟩
        have I3 := HI.out.step hw3
        have k0 := I3.row.c0 0 (by omega)
        have k1 := I3.row.c1 0 (by omega)
        have g0 := I3.row.fr 0 (by omega)
        have g1 := I3.row.fr 1 (by omega)
        have q1 := I3.qlo
        have hb3 := Lib.hid I3.below
        clear hw3 c I3
        go_wp2_with fail
        go_ret2
        exact ⟨rfl, (hb3.out.setCell q1 _).setCell q1 _⟩
set_option maxRecDepth 100000 in
set_option maxHeartbeats 2000000 in
theorem pdd_zero (A k a n mt : Int) (ca : Option Addr) (cn ccap : Nat) (ha : Option Addr) (hn hcap : Nat) (f : Nat → Int) (hcn : cn ≤ 1000) (A0 : -1000000000 ≤ A) (A1 : A ≤ 1000000000) (f0 : ∀ i, i < cn + 1 → 0 ≤ f i) (f1 : ∀ i, i < cn + 1 → f i ≤ 1000000000) (hS : sumTo f (cn + 1) = 0) (w : World)
    (C : Calls Tryz.prog 22 #[.agg #[.int .i64 k, .int .i64 a], .int .i64 n, .slice ca cn ccap, .int .i64 mt, .slice ha hn hcap] (w.alloc (.cells #[.int .i64 k, .int .i64 a] 27)) (WtsR cn f (w.alloc (.cells #[.int .i64 k, .int .i64 a] 27)))) :
    Calls Tryz.prog 26 #[.int .i64 A, .agg #[.int .i64 k, .int .i64 a], .int .i64 n, .slice ca cn ccap, .int .i64 mt, .slice ha hn hcap] w (WtsE 5 w) := by
  have CC := Lib.hid C
  have C2 := Lib.hid (fun x cap w hr => alloc_zero (cn + 1) A x cap f (by omega) A0 A1 f0 f1 hS w hr)
  clear C f0 f1 hS
  go_enter Tryz.func26, Tryz.ntmps26
  go_wp2_with fail
  refine CC.out.mono ?_
  rintro e w1 ⟨p, cap, rfl, hp0, hp1, hrow, hw1⟩
  have HR := Lib.hid (wts_row hrow)
  have hB1 : Below w.heap.size w w1 := Below.trans ((Below.refl w.heap.size w).alloc (Nat.le_refl _) _) (hw1.mono (by simp))
  clear hrow hw1 hp0
  go_wp2_with fail
  refine (C2.out ⟨p, 0, none⟩ cap w1 HR.out).mono ?_
  rintro e w2 ⟨rfl, rfl⟩
  go_wp2_with fail
  go_ret2
  exact ⟨rfl, hB1⟩
end Go.Proofs.YtmgglcfndhfceaaGreatDoor.Per
