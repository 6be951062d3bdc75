/-
  Layer 5 (period): the law's cuts: whatever the tape holds, a short list of the call's own. Condition: the tape's block reads as a tape.
-/
import Derived.Test.YtmgglcfndhfceaaGreatDoorPrYe
import Derived.Test.YtmgglcfndhfceaaGreatDoorPrCq
namespace Go.Proofs.YtmgglcfndhfceaaGreatDoor.Per
open Go Go.RowKit Go.Lib Go.Proofs.YtmgglcfndhfceaaGreatDoor Go.Proofs.YtmgglcfndhfceaaGreatDoor.Cal Go.Proofs.YtmgglcfndhfceaaGreatDoor.Tp
set_option linter.unusedVariables false

/-- The list while it is made. -/
structure CuI (w : World) (b : Nat) (F T : Int) (v : Value) (xs : List Int) (wr : World) : Prop where
  box : Box2 wr w.heap.size 34 F T
  row : wr.ownsRow (w.heap.size + 1) 3 1 v xs.length (xs.map (Value.int .i64))
  tape : TapeAt b wr
  only : Only b w wr
  lo : b < w.heap.size
theorem CuI.next {w wr w' : World} {b : Nat} {F T : Int} {v : Value} {xs : List Int} (h : CuI w b F T v xs wr) (hT : TapeAt b w') (hO : Only b wr w') : CuI w b F T v xs w' :=
  ⟨(hO.block _ h.box.lt (by have := h.lo; omega)).trans h.box, own_only h.row hO (by have := h.lo; omega), hT, h.only.trans hO, h.lo⟩
theorem CuI.alloc {w wr : World} {b : Nat} {F T : Int} {v : Value} {xs : List Int} (h : CuI w b F T v xs wr) (o : Obj) : CuI w b F T v xs (wr.alloc o) :=
  ⟨h.box.alloc o, h.row.alloc o, h.tape.alloc o, h.only.alloc o, h.lo⟩
theorem CuI.grow {w wr w2 : World} {b : Nat} {F T : Int} {v v2 : Value} {xs : List Int} {y : Int} (h : CuI w b F T v xs wr)
    (ho : w2.ownsRow (w.heap.size + 1) 3 1 v2 (xs.length + 1) (xs.map (Value.int .i64) ++ [.int .i64 y])) (hg : wr.grownBy w2 v.ownBlock) : CuI w b F T v2 (xs ++ [y]) w2 := by
  have hB : Below (w.heap.size + 1) wr w2 := Below.grown (Below.refl _ _) hg h.box.lt (fun g hg => (h.row.lt g hg).1)
  exact ⟨(hB.block _ (by omega)).trans h.box, by simpa using ho, tape_belowB h.tape hB (by have := h.lo; omega), only_belowB h.only hB (by omega), h.lo⟩
/-- What the law's cuts leaves. -/
def CutsR (b : Nat) (w : World) (e : Ending) (w' : World) : Prop :=
  ∃ A n cap, ∃ g : Nat → Int, e = .returned (.slice A n cap) ∧ n ≤ 5 ∧ CutRow w' w'.heap.size A n g ∧ (∀ y, A = some y → w.heap.size ≤ y.block) ∧ TapeAt b w' ∧ Only b w w'
theorem CuI.read {w wr : World} {b : Nat} {F T : Int} {v : Value} {xs : List Int} (h : CuI w b F T v xs wr) : ∃ A cap, v = .slice A xs.length cap ∧ CutRow wr wr.heap.size A xs.length (fun i => xs.getD i 0) ∧ ∀ y, A = some y → w.heap.size ≤ y.block := by
  have hr := h.row
  rcases hr.2 with ⟨rfl, h0⟩ | ⟨g, cap, cur, rfl, hb, hg, _⟩
  · exact ⟨none, 0, by rw [h0], fun hn => by omega, fun y e => by cases e⟩
  · refine ⟨_, cap, rfl, fun _ => ⟨_, rfl, (Array.getElem?_eq_some_iff.1 hg).1, fun i hi => ?_⟩, fun y e => by injection e with e; subst e; exact Nat.le_of_succ_le hb⟩
    have := hr.cells (g := g) rfl i (.int .i64 (xs.getD i 0)) (by simp [hi])
    exact this
theorem infoC : (Tryz.prog.info? 3).map (fun i => (i.zero, i.size, i.bytes)) = some (some (.int .i64 0), 1, 8) := by kernel_rfl
set_option maxRecDepth 100000 in
set_option maxHeartbeats 4000000 in
theorem cuts_any (b : Nat) (F T : Int) (F0 : -1000000 ≤ F) (F1 : F ≤ 1000000) (T0 : -1000000 ≤ T) (T1 : T ≤ 1000000) (w : World) (h : TapeAt b w) :
    Calls Tryz.prog 9 #[.pointer (some ⟨b, 0, none⟩), .agg #[.int .i64 F, .int .i64 T]] w (CutsR b w) := by
  have hlt := h.lt
  obtain ⟨i0, hi0, hz0, hz1, hz2⟩ := info_parts infoC
  have HQ := Lib.hid (show ∃ i0 : TypeInfo, Tryz.prog.info? 3 = some i0 ∧ i0.zero = some (.int .i64 0) ∧ i0.size = 1 ∧ i0.bytes = 8 from ⟨i0, hi0, hz0, hz1, hz2⟩)
  have HI0 : CuI w b F T (.slice none 0 0) [] (w.alloc (.cells #[.int .i64 F, .int .i64 T] 34)) := ⟨Box2.new w _ F T, World.ownsRow_nil _ _ _ _, h.alloc _, (Only.refl _ _).alloc _, hlt⟩
  have z0 := HI0.box.c0
  clear hi0 hz0 hz1 hz2 i0 h
  go_enter Tryz.func9, Tryz.ntmps9
  go_wp2_with fail
  refine (next_any b 4 (by omega) (by omega) _ HI0.tape).mono ?_
  rintro e w1 ⟨v1, rfl, a0, a1, T1', O1⟩
  have HI1 := Lib.hid (HI0.next T1' O1)
  clear T1' O1 HI0
  go_wp2_with fail
  go_loopw [5, 6, 7] (fun v x z wr => ∃ (xs : List Int) (c : Int) (i : Nat), z = .int .i64 i ∧ x = .int .i64 c ∧ i ≤ 3 ∧ xs.length + i ≤ 3 ∧ -1000000 ≤ c ∧ c + 8 * i ≤ 1000024 ∧ Hid (CuI w b F T v xs wr)) (fun _ _ z _ => (intOf z).toNat)
  case atStart =>
    obtain ⟨j, rfl⟩ := Int.eq_ofNat_of_zero_le a0
    exact ⟨[], F, j, rfl, rfl, by omega, by simp; omega, by omega, by omega, HI1⟩
  case round =>
    clear HI1 a0 a1 z0
    obtain ⟨xs, c, i, rfl, rfl, hi, hl, c0, c1, HI⟩ := hrel
    by_cases h0 : 0 < i
    · go_wp2_with fail
      refine (next_any b 8 (by omega) (by omega) _ HI.out.tape).mono ?_
      rintro e w2 ⟨v2, rfl, d0, d1, T2, O2⟩
      have HI2 := Lib.hid (HI.out.next T2 O2)
      clear T2 O2 HI
      have g1 : IntKind.i64.wrap (1 + v2) = 1 + v2 := IntWalk.i64_in _ (by omega)
      have g2 : IntKind.i64.wrap (c + (1 + v2)) = c + (1 + v2) := IntWalk.i64_in _ (by omega)
      have y1 := HI2.out.box.c1
      by_cases hle : c + (1 + v2) ≤ T
      · have tl : decide (c + (1 + v2) ≤ T) = true := decide_eq_true hle
        obtain ⟨i0, hi0, hz0, hz1, hz2⟩ := HQ.out
        have HIa := Lib.hid (HI2.out.alloc (.cells #[.int .i64 (c + (1 + v2))] 3))
        have hx3 : xs.length ≤ 3 := by omega
        go_wp2_with (at_builtin; refine wpList_append_own _ rfl _ _ 22 rfl (w.heap.size + 1) 3 i0 (.int .i64 0) 1 8 Tryz.underlying22 hi0 hz0 hz1 hz2 rfl (by decide) _ _ _ rfl HIa.out.row ⟨w2.heap.size, 0, none⟩ 1 1 [.int .i64 (c + (1 + v2))] rfl rfl ?c1 ?c2 ?c3 ?c4 ?c5 ?_)
        case c1 =>
          intro j u hu
          rcases j with _ | j
          · have e : u = .int .i64 (c + (1 + v2)) := by simpa using hu.symm
            subst e; go_simp
          · simp at hu
        case c2 => intro u hu; rw [List.mem_singleton] at hu; subst hu; rfl
        case c3 => unfold maxLen; omega
        case c4 => omega
        case c5 => have := HIa.out.box.lt; exact this
        intro v8 w6 hown hgrow _
        have HI6 := Lib.hid (HIa.out.grow hown hgrow)
        clear hown hgrow HIa HI2 hz0 hz1 hz2 hi0
        go_wp2_with fail
        go_roundw
        case rel => exact ⟨xs ++ [c + (1 + v2)], _, i - 1, by congr 1; omega, rfl, by omega, by simp; omega, by omega, by omega, HI6⟩
        case measure => simp [intOf]; omega
      · have tl : decide (c + (1 + v2) ≤ T) = false := decide_eq_false hle
        go_wp2_with fail
        refine (next_any b 8 (by omega) (by omega) _ HI2.out.tape).mono ?_
        rintro e w3 ⟨v3, rfl, e0, e1, T3, O3⟩
        have HI3 := Lib.hid (HI2.out.next T3 O3)
        clear T3 O3 HI2 y1
        by_cases h7 : v3 = 7
        · subst h7
          obtain ⟨i0, hi0, hz0, hz1, hz2⟩ := HQ.out
          have HIa := Lib.hid (HI3.out.alloc (.cells #[.int .i64 (c + (1 + v2))] 3))
          have hx3 : xs.length ≤ 3 := by omega
          go_wp2_with (at_builtin; refine wpList_append_own _ rfl _ _ 22 rfl (w.heap.size + 1) 3 i0 (.int .i64 0) 1 8 Tryz.underlying22 hi0 hz0 hz1 hz2 rfl (by decide) _ _ _ rfl HIa.out.row ⟨w3.heap.size, 0, none⟩ 1 1 [.int .i64 (c + (1 + v2))] rfl rfl ?c1 ?c2 ?c3 ?c4 ?c5 ?_)
          case c1 =>
            intro j u hu
            rcases j with _ | j
            · have e : u = .int .i64 (c + (1 + v2)) := by simpa using hu.symm
              subst e; go_simp
            · simp at hu
          case c2 => intro u hu; rw [List.mem_singleton] at hu; subst hu; rfl
          case c3 => unfold maxLen; omega
          case c4 => omega
          case c5 => have := HIa.out.box.lt; exact this
          intro v8 w6 hown hgrow _
          have HI6 := Lib.hid (HIa.out.grow hown hgrow)
          clear hown hgrow HIa HI3 hz0 hz1 hz2 hi0
          go_wp2_with fail
          go_roundw
          case rel => exact ⟨xs ++ [c + (1 + v2)], _, i - 1, by congr 1; omega, rfl, by omega, by simp; omega, by omega, by omega, HI6⟩
          case measure => simp [intOf]; omega
        · have t7 : (v3 == 7) = false := by simp [h7]
          go_wp2_with fail
          go_roundw
          case rel => exact ⟨xs, _, i - 1, by congr 1; omega, rfl, by omega, by omega, by omega, by omega, HI3⟩
          case measure => simp [intOf]; omega
    · obtain rfl : i = 0 := by omega
      go_wp2_with fail
      refine (next_any b 10 (by omega) (by omega) _ HI.out.tape).mono ?_
      rintro e w2 ⟨v2, rfl, d0, d1, T2, O2⟩
      have HI2 := Lib.hid (HI.out.next T2 O2)
      clear T2 O2 HI
      by_cases h9 : v2 = 9
      · subst h9
        have y0 := HI2.out.box.c0
        go_wp2_with fail
        have HI3 := Lib.hid (HI2.out.alloc (.cells #[.int .i64 F, .int .i64 c, .int .i64 0] 3))
        have hb2 := HI2.out.tape.lt
        refine (pick_any b w2.heap.size [F, c, 0] (by simp) (by simp) (by omega) _ HI3.out.tape (three w2 F c 0 _)).mono ?_
        rintro e w4 ⟨v4, rfl, m4, T4, O4⟩
        have HI4 := Lib.hid (HI3.out.next T4 O4)
        clear T4 O4 HI2 HI3 m4 y0
        obtain ⟨i0, hi0, hz0, hz1, hz2⟩ := HQ.out
        have HIa := Lib.hid (HI4.out.alloc (.cells #[.int .i64 (v4)] 3))
        have hx3 : xs.length ≤ 3 := by omega
        go_wp2_with (at_builtin; refine wpList_append_own _ rfl _ _ 22 rfl (w.heap.size + 1) 3 i0 (.int .i64 0) 1 8 Tryz.underlying22 hi0 hz0 hz1 hz2 rfl (by decide) _ _ _ rfl HIa.out.row ⟨w4.heap.size, 0, none⟩ 1 1 [.int .i64 (v4)] rfl rfl ?c1 ?c2 ?c3 ?c4 ?c5 ?_)
        case c1 =>
          intro j u hu
          rcases j with _ | j
          · have e : u = .int .i64 (v4) := by simpa using hu.symm
            subst e; go_simp
          · simp at hu
        case c2 => intro u hu; rw [List.mem_singleton] at hu; subst hu; rfl
        case c3 => unfold maxLen; omega
        case c4 => omega
        case c5 => have := HIa.out.box.lt; exact this
        intro v8 w6 hown hgrow _
        have HI6 := Lib.hid (HIa.out.grow hown hgrow)
        clear hown hgrow HIa HI4 hz0 hz1 hz2 hi0
        obtain ⟨A, cap, rfl, hrow, hlo⟩ := HI6.out.read
        have HR := Lib.hid hrow
        clear hrow
        go_wp2_with fail
        go_ret
        exact ⟨A, _, cap, _, rfl, by simp; omega, HR.out, hlo, HI6.out.tape, HI6.out.only⟩
      · have t9 : (v2 == 9) = false := by simp [h9]
        obtain ⟨A, cap, rfl, hrow, hlo⟩ := HI2.out.read
        have HR := Lib.hid hrow
        clear hrow
        go_wp2_with fail
        go_ret
        exact ⟨A, _, cap, _, rfl, by omega, HR.out, hlo, HI2.out.tape, HI2.out.only⟩
end Go.Proofs.YtmgglcfndhfceaaGreatDoor.Per
