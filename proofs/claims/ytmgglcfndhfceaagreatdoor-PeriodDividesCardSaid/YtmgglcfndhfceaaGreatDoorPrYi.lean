/-
  The reference of layer 5 (period): contracts of Portions and Divide. Conditions: the contract of Weights at its call.
-/
import Derived.Test.YtmgglcfndhfceaaGreatDoorPrYp
import Derived.Test.YtmgglcfndhfceaaGreatDoorPrYe
namespace Go.Proofs.YtmgglcfndhfceaaGreatDoor.Per
open Go Go.RowKit Go.Lib Go.Sort Go.Shelf Go.Proofs Go.Proofs.YtmgglcfndhfceaaGreatDoor Go.Proofs.YtmgglcfndhfceaaGreatDoor.Cal Go.Proofs.YtmgglcfndhfceaaGreatDoor.Mg
set_option linter.unusedVariables false

set_option maxRecDepth 100000 in
set_option maxHeartbeats 2000000 in
theorem rpt_err (k a n mt : Int) (ca : Option Addr) (cn ccap : Nat) (ha : Option Addr) (hn hcap : Nat) (c : Int) (hc : (c == 0) = false) (w : World)
    (C : Calls Tryz.prog 23 #[.agg #[.int .i64 k, .int .i64 a], .int .i64 n, .slice ca cn ccap, .int .i64 mt, .slice ha hn hcap] (w.alloc (.cells #[.int .i64 k, .int .i64 a] 27)) (WtsE c (w.alloc (.cells #[.int .i64 k, .int .i64 a] 27)))) :
    Calls Tryz.prog 25 #[.agg #[.int .i64 k, .int .i64 a], .int .i64 n, .slice ca cn ccap, .int .i64 mt, .slice ha hn hcap] w (WtsE c w) := by
  have CC := Lib.hid C
  clear C
  have hc2 : (c != 0) = true := by rw [bne, hc]; rfl
  go_enter Tryz.func25, Tryz.ntmps25
  go_wp2_with fail
  refine CC.out.mono ?_
  rintro e w1 ⟨rfl, hw1⟩
  go_wp2_with fail
  go_ret2
  exact ⟨rfl, Below.trans ((Below.refl w.heap.size w).alloc (Nat.le_refl _) _) (hw1.mono (by simp))⟩

def rcel (c : Int × Int) : List Value := [.int .i64 c.1, .int .i64 c.2]
def ptL (f : Nat → Int) (s : Int) (i : Nat) : List (Int × Int) := (List.range i).map fun j => ((newT (f j) s).1, (newT (f j) s).2.1)
theorem ptL_len (f : Nat → Int) (s : Int) (i : Nat) : (ptL f s i).length = i := by simp [ptL]
theorem ptL_succ (f : Nat → Int) (s : Int) (i : Nat) : ptL f s (i + 1) = ptL f s i ++ [((newT (f i) s).1, (newT (f i) s).2.1)] := by simp [ptL, List.range_succ]
theorem rcel_at : ∀ (l : List (Int × Int)) (i : Nat) (c : Int × Int), l[i]? = some c → (l.flatMap rcel)[i * 2]? = some (.int .i64 c.1) ∧ (l.flatMap rcel)[i * 2 + 1]? = some (.int .i64 c.2)
  | [], i, c, h => by simp at h
  | x :: l, 0, c, h => by
    obtain rfl : x = c := by simpa using h
    simp [rcel]
  | x :: l, i + 1, c, h => by
    have := rcel_at l i c (by simpa using h)
    rw [show (i + 1) * 2 = i * 2 + 2 by omega]
    simpa [rcel] using this
/-- The second loop of the reference's Portions. -/
structure RpI (w w1 : World) (p n : Nat) (f : Nat → Int) (s : Int) (v : Value) (i : Nat) (wr : World) : Prop where
  wts : ∀ j, j < n → wr.cell? ⟨p, j, none⟩ = some (.int .i64 (f j))
  row : wr.ownsRow w1.heap.size 61 2 v i ((ptL f s i).flatMap rcel)
  below : Below w.heap.size w wr
  plt : p < w1.heap.size
  sz : w1.heap.size ≤ wr.heap.size
  lo : w.heap.size ≤ w1.heap.size
theorem RpI.step {w w1 wr w' : World} {p n : Nat} {f : Nat → Int} {s : Int} {v : Value} {i : Nat} (h : RpI w w1 p n f s v i wr) (hb : Below wr.heap.size wr w') : RpI w w1 p n f s v i w' :=
  ⟨fun j hj => (hb.cell (p := ⟨p, j, none⟩) (Nat.lt_of_lt_of_le h.plt h.sz)).trans (h.wts j hj), ownKI h.row hb, h.below.trans (hb.mono h.below.size), h.plt, Nat.le_trans h.sz hb.size, h.lo⟩
theorem RpI.alloc {w w1 wr : World} {p n : Nat} {f : Nat → Int} {s : Int} {v : Value} {i : Nat} (h : RpI w w1 p n f s v i wr) (o : Obj) : RpI w w1 p n f s v i (wr.alloc o) := h.step ((Below.refl _ _).alloc (Nat.le_refl _) o)
theorem RpI.grow {w w1 wr w2 : World} {p n : Nat} {f : Nat → Int} {s : Int} {v v2 : Value} {i : Nat} (h : RpI w w1 p n f s v i wr)
    (ho : w2.ownsRow w1.heap.size 61 2 v2 (i + 1) ((ptL f s i).flatMap rcel ++ [.int .i64 (newT (f i) s).1, .int .i64 (newT (f i) s).2.1])) (hg : wr.grownBy w2 v.ownBlock) : RpI w w1 p n f s v2 (i + 1) w2 := by
  have hlt := h.row.lt
  have hp : p < wr.heap.size := Nat.lt_of_lt_of_le h.plt h.sz
  refine ⟨fun j hj => (World.cell?_of_block (a := ⟨p, j, none⟩) (hg.block p hp (fun e => ?_))).trans (h.wts j hj), ?_, h.below.grown hg h.below.size (fun g hg' => ?_), h.plt, Nat.le_trans h.sz hg.size, h.lo⟩
  · have := (hlt p e.symm).1; have := h.plt; omega
  · rw [ptL_succ, List.flatMap_append]
    simpa [rcel] using ho
  · have := (hlt g hg').1; have := h.lo; omega
theorem RpI.read {w w1 wr : World} {p n : Nat} {f : Nat → Int} {s : Int} {v : Value} {i : Nat} (h : RpI w w1 p n f s v i wr) (hi : 0 < i) :
    ∃ q cap, v = .slice (some ⟨q, 0, none⟩) i cap ∧ w.heap.size ≤ q ∧ q < wr.heap.size ∧ ∀ j, j < i → wr.cell? ⟨q, j * 2, none⟩ = some (.int .i64 (newT (f j) s).1) ∧ wr.cell? ⟨q, j * 2 + 1, none⟩ = some (.int .i64 (newT (f j) s).2.1) := by
  have hr := h.row
  rcases hr.2 with ⟨_, h0⟩ | ⟨g, cap, cur, rfl, hb, hg, _⟩
  · omega
  · refine ⟨g, cap, rfl, by have := h.lo; omega, (Array.getElem?_eq_some_iff.1 hg).1, fun j hj => ?_⟩
    have c := rcel_at (ptL f s i) j ((newT (f j) s).1, (newT (f j) s).2.1) (by simp [ptL, hj])
    have e : ∀ m, (⟨g, 0, none⟩ : Addr).add m = ⟨g, m, none⟩ := fun m => by unfold Addr.add; split <;> simp_all
    have a0 := hr.cells (g := g) rfl _ _ c.1
    have a1 := hr.cells (g := g) rfl _ _ c.2
    rw [e] at a0 a1
    exact ⟨a0, a1⟩
theorem infoQ : (Tryz.prog.info? 61).map (fun i => (i.zero, i.size, i.bytes)) = some (some (.agg #[.int .i64 0, .int .i64 0]), 2, 16) := by kernel_rfl
set_option maxRecDepth 100000 in
set_option maxHeartbeats 4000000 in
theorem rpt_pos (s k a n mt : Int) (ca : Option Addr) (cn ccap : Nat) (ha : Option Addr) (hn hcap : Nat) (f : Nat → Int) (hcn : cn ≤ 1000) (fb : ∀ i, i < cn + 1 → 0 ≤ f i ∧ f i ≤ 1000) (hS : sumTo f (cn + 1) = s) (hs : 1 ≤ s) (hs1 : s ≤ 1000) (w : World)
    (C : Calls Tryz.prog 23 #[.agg #[.int .i64 k, .int .i64 a], .int .i64 n, .slice ca cn ccap, .int .i64 mt, .slice ha hn hcap] (w.alloc (.cells #[.int .i64 k, .int .i64 a] 27)) (WtsR cn f (w.alloc (.cells #[.int .i64 k, .int .i64 a] 27)))) :
    Calls Tryz.prog 25 #[.agg #[.int .i64 k, .int .i64 a], .int .i64 n, .slice ca cn ccap, .int .i64 mt, .slice ha hn hcap] w (PtR (cn + 1) (fun i => (newT (f i) s).1) (fun i => (newT (f i) s).2.1) w) := by
  have CC := Lib.hid C
  have FB := Lib.hid fb
  have HS := Lib.hid hS
  have ts : (s == 0) = false := by simp; omega
  obtain ⟨i0, hi0, hz0, hz1, hz2⟩ := info_parts infoQ
  have HQ := Lib.hid (show ∃ i0 : TypeInfo, Tryz.prog.info? 61 = some i0 ∧ i0.zero = some (.agg #[.int .i64 0, .int .i64 0]) ∧ i0.size = 2 ∧ i0.bytes = 16 from ⟨i0, hi0, hz0, hz1, hz2⟩)
  clear C fb hS hi0 hz0 hz1 hz2 i0
  go_enter Tryz.func25, Tryz.ntmps25
  go_wp2_with fail
  refine CC.out.mono ?_
  rintro e w1 ⟨p, cap, rfl, hp0, hp1, hrow, hw1⟩
  have HR := Lib.hid hrow
  have hB1 : Below w.heap.size w w1 := Below.trans ((Below.refl w.heap.size w).alloc (Nat.le_refl _) _) (hw1.mono (by simp))
  clear hrow hw1 hp0
  go_wp2_with fail
  go_loop [14, 15] (fun x z => ∃ i : Nat, i ≤ cn + 1 ∧ z = .int .i64 i ∧ x = .int .i64 (sumTo f i)) (fun _ z => cn + 1 - (intOf z).toNat)
  case atStart => exact ⟨0, by omega, rfl, rfl⟩
  case round =>
    obtain ⟨i, hi, rfl, rfl⟩ := hrel
    have b1 := sumTo_small (f := f) (n := i) fun j hj => FB.out j (by omega)
    obtain ⟨b1, b2⟩ := b1
    by_cases hlt : i < cn + 1
    · have c := HR.out i (by omega)
      have fbi := FB.out i hlt
      obtain ⟨f0, f1⟩ := fbi
      have E := Lib.hid (show sumTo f (i + 1) = sumTo f i + f i from rfl)
      generalize sumTo f i = S at *
      generalize hfi : f i = v at *
      clear hfi
      go_wp2_with fail
      go_round
      case rel => exact ⟨i + 1, by omega, by go_num, by rw [E.out]⟩
      case measure => simp [intOf]; omega
    · obtain rfl : i = cn + 1 := by omega
      rw [HS.out]
      have I0 : RpI w w1 p (cn + 1) f s (.slice none 0 0) 0 w1 := ⟨fun j hj => HR.out j (by omega), World.ownsRow_nil _ _ _ _, hB1, hp1, Nat.le_refl _, hB1.size⟩
      have HI0 := Lib.hid I0
      clear b1 b2 I0 hB1
      go_wp2_with fail
      go_loopw [16, 17] (fun v z wr => ∃ i : Nat, i ≤ cn + 1 ∧ z = .int .i64 i ∧ Hid (RpI w w1 p (cn + 1) f s v i wr)) (fun _ z _ => cn + 1 - (intOf z).toNat)
      case atStart => exact ⟨0, by omega, rfl, HI0⟩
      case round =>
        clear HI0
        obtain ⟨i, hi, rfl, HI⟩ := hrel
        by_cases hlt : i < cn + 1
        · have c := HI.out.wts i hlt
          obtain ⟨f0, f1⟩ := FB.out i hlt
          have CN := Lib.hid (fun w => rnew_any (f i) s (by omega) (by omega) (by omega) (by omega) w)
          rw [newT_small (f i) s f0 f1 hs hs1] at CN
          have HG := Lib.hid (fun (w2 : World) (v v2 : Value) (wr : World) (h : RpI w w1 p (cn + 1) f s v i wr) ho hg => RpI.grow (v2 := v2) (w2 := w2) h ho hg)
          generalize (newT (f i) s).1 = u at CN HG
          generalize (newT (f i) s).2.1 = v at CN HG
          generalize hfi : f i = x at c CN f0 f1
          clear hfi
          go_wp2_with fail
          refine (CN.out _).mono ?_
          rintro e w3 ⟨rfl, hw3⟩
          have I3 := Lib.hid (HI.out.step hw3)
          clear hw3 c
          obtain ⟨i0, hi0, hz0, hz1, hz2⟩ := HQ.out
          have I5 := Lib.hid ((I3.out.alloc (.cells #[.int .i64 u, .int .i64 v] 61)).alloc (.cells #[.int .i64 u, .int .i64 v] 61))
          have hi1 : i ≤ 1001 := by omega
          go_wp2_with (at_builtin; refine wpList_append_own _ rfl _ _ 56 rfl w1.heap.size 61 i0 (.agg #[.int .i64 0, .int .i64 0]) 2 16 Tryz.underlying56 hi0 hz0 hz1 hz2 rfl (by decide) _ _ _ rfl I5.out.row ⟨w3.heap.size + 1, 0, none⟩ 1 1 [.int .i64 u, .int .i64 v] rfl rfl ?c1 ?c2 ?c3 ?c4 ?c5 ?_)
          case c1 =>
            intro j x hx
            rcases j with _ | _ | j
            · have e : x = .int .i64 u := by simpa using hx.symm
              subst e; go_simp
            · have e : x = .int .i64 v := by simpa using hx.symm
              subst e; go_simp
            · simp at hx
          case c2 => intro x hx; simp at hx; rcases hx with rfl | rfl <;> rfl
          case c3 => unfold maxLen; omega
          case c4 => omega
          case c5 => have := I5.out.sz; exact this
          intro v2 w6 hown hgrow _
          have I6 := Lib.hid (HG.out w6 _ v2 _ I5.out hown hgrow)
          clear hown hgrow I5 I3 hz0 hz1 hz2 hi0
          go_wp2_with fail
          go_roundw
          case rel => exact ⟨i + 1, by omega, by go_num, I6⟩
          case measure => simp [intOf]; omega
        · obtain rfl : i = cn + 1 := by omega
          obtain ⟨q, qc, rfl, hq0, hq1, hcell⟩ := HI.out.read (by omega)
          go_wp2_with fail
          go_ret2
          exact ⟨q, _, rfl, hq0, hq1, hcell, HI.out.below⟩
end Go.Proofs.YtmgglcfndhfceaaGreatDoor.Per
