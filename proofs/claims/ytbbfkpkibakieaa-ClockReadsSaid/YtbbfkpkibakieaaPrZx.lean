/-
  Layer 4 (clock): the reference: the contract of Instants at any zone: it gives what the program gives. Conditions: the zone's changes lie in their cells; the local minute fits its kind.
-/
import Derived.Test.YtbbfkpkibakieaaPrZw
import Derived.OwnWalk
namespace Go.Proofs.Ytbbfkpkibakieaa
open Go Go.RowKit Go.Lib

theorem RZ.grown {w0 W w2 : World} {off : Int} {a : Option Addr} {n cap : Nat} {cs : List (Int × Int)} {v : Value} {k : Nat} {xs : List Value} (h : RZ w0 off a n cap cs W) (hg : W.grownBy w2 v.ownBlock) (hrow : W.ownsRow w0.heap.size 3 1 v k xs) (hr0 : ChRow w0 w0.heap.size a n cs) : RZ w0 off a n cap cs w2 := by
  have hB : Below w0.heap.size w0 w2 := h.below.grown hg h.below.size (fun g e => (hrow.lt g e).1)
  refine ⟨(hg.block _ h.box.lt (fun e => ?_)).trans h.box, row_more hr0 hB, hB⟩
  rcases hrow.2 with ⟨rfl, _⟩ | ⟨g, c, cur, rfl, _, hc, _⟩
  · simp [Value.ownBlock] at e
  · have e2 : w0.heap.size = g := by simpa [Value.ownBlock] using e
    subst e2
    have := (show W.heap[w0.heap.size]? = _ from h.box).symm.trans hc
    cases this
theorem rI_snoc (l : Int) (S : List Span) (k : Nat) (h : k < S.length) : rI l (S.take (k + 1)) = rI l (S.take k) ++ (if S[k].1 + S[k].2.2 ≤ l ∧ l ≤ S[k].2.1 - 1 + S[k].2.2 then [l - S[k].2.2] else []) := by
  rw [List.take_succ_eq_append_getElem h]
  unfold rI
  rw [List.filterMap_append]
  congr 1
  by_cases c : S[k].1 + S[k].2.2 ≤ l ∧ l ≤ S[k].2.1 - 1 + S[k].2.2
  · rw [if_pos c]; simp [c]
  · rw [if_neg c]; simp only [List.filterMap_cons, if_neg c, List.filterMap_nil]
theorem rI_len (l : Int) (S : List Span) : (rI l S).length ≤ S.length := List.length_filterMap_le _ _

set_option maxRecDepth 100000 in
set_option maxHeartbeats 2000000 in
theorem rins_ok (off : Int) (a : Option Addr) (n cap : Nat) (cs : List (Int × Int)) (l : Int) (hn0 : n ≤ 9223372036854775807) (hv : vE off cs = 0) (w : World) (hr : ChRow w w.heap.size a n cs) :
    Calls Try.prog 29 #[.agg #[.int .i64 off, .slice a n cap], .int .i64 l] w (InsA (rI l (sg 0 off cs)) 0 w) := by
  have R0 := RZ.new (off := off) (cap := cap) hr
  have C := Lib.hid (rvalid_any off a n cap cs hn0)
  rw [hv] at C
  have HI := Lib.hid (info_parts infoInt)
  have hl := hr.1
  have hn := (vE_parts hv).1
  have hlen := sg_length 0 off cs
  have HG := Lib.hid (sg_good hv)
  have HSeg := Lib.hid (fun k hk => seg_any off a n cap cs k hv hk)
  have HR0 := Lib.hid hr
  have hlen2 : (sg 0 off cs).length = n + 1 := by omega
  have hn2 : n ≤ 64 := by omega
  have HLEN := Lib.hid hlen2
  clear hl hn hlen hlen2 hr hv
  have z0 := R0.box.c0
  have z1 := R0.box.c1
  go_enter Try.func29, Try.ntmps29
  go_wp2_with fail
  refine (C.out _ R0.row).mono ?_
  rintro e w1 ⟨rfl, hw1⟩
  have R1 := R0.step hw1
  clear z0 z1 R0 hw1
  go_wp2_with fail
  go_loopw [7, 8] (fun ov iv wr => ∃ (k : Nat) (v : Value), k ≤ n + 1 ∧ iv = .int .i64 k ∧ ov = v ∧ Hid (wr.ownsRow w.heap.size 3 1 v (rI l ((sg 0 off cs).take k)).length ((rI l ((sg 0 off cs).take k)).map (Value.int .i64))) ∧ Hid (RZ w off a n cap cs wr)) (fun _ iv _ => n + 1 - (Go.RowKit.intOf iv).toNat)
  case atStart => exact ⟨0, _, by omega, rfl, rfl, Lib.hid (World.ownsRow_nil _ _ _ _), Lib.hid R1⟩
  case round =>
    obtain ⟨k, v, hk, rfl, hov, HO, HR⟩ := hrel
    have hov' := hov.symm
    subst hov'
    clear R1
    have z0 := HR.out.box.c0
    have z1 := HR.out.box.c1
    by_cases hlt : k ≤ n
    · have hk' : k < (sg 0 off cs).length := by rw [HLEN.out]; omega
      have hE := sg_get cs 0 off k hk'
      obtain ⟨b1, b2, b3, b4, b5⟩ := HG.out _ (List.getElem_mem hk')
      have hD := rI_snoc l (sg 0 off cs) k hk'
      have hlk := rI_len l ((sg 0 off cs).take k)
      rw [List.length_take] at hlk
      have hlk2 : (rI l ((sg 0 off cs).take k)).length ≤ 65 := by have := HLEN.out; omega
      rw [hE] at b1 b2 b3 b4 b5 hD
      have HD := Lib.hid hD
      have C := Lib.hid (HSeg.out k hlt wr HR.out.row)
      unfold SegR at C
      dsimp only at b1 b2 b3 b4 b5 HD
      generalize sFrom 0 cs k = f at *
      generalize sTo cs k = t at *
      generalize sOff off cs k = o at *
      generalize rI l ((sg 0 off cs).take k) = xs at *
      unfold END at b3
      clear hD hE hk' hlk
      by_cases h1 : f + o ≤ l
      · by_cases h2 : l ≤ t - 1 + o
        · go_wp2_with fail
          refine (C.out).mono ?_
          rintro e w1 ⟨rfl, hw1⟩
          have R1 := HR.out.step hw1
          have hO1 := HO.out.kept (w' := w1) (row := none) ⟨hw1.os, hw1.tape, hw1.output, hw1.size, fun j hj _ => hw1.block j hj⟩ (by cases hv : v.ownBlock <;> simp)
          have HO1 := Lib.hid hO1
          have R1H := Lib.hid R1
          have sz := R1.below.size
          clear hO1 z0 z1 hw1 HO HR R1
          obtain ⟨i0, hi0, hz0, hz1, hz2⟩ := HI.out
          go_wp2_with (at_builtin; refine wpList_append_own _ rfl _ _ 33 rfl w.heap.size 3 i0 (.int .i64 0) 1 8 Try.underlying33 hi0 hz0 hz1 hz2 rfl (by decide) _ _ _ rfl (HO1.out.alloc _) ⟨w1.heap.size, 0, none⟩ 1 1 [.int .i64 (l - o)] rfl rfl ?c1 ?c2 ?c3 ?c4 ?c5 ?_)
          case c1 =>
            intro j u hu
            rcases j with _ | j
            · have e : u = .int .i64 (l - o) := by simpa using hu.symm
              subst e; go_simp
            · simp at hu
          case c2 => intro u hu; rw [List.mem_singleton] at hu; subst hu; rfl
          case c3 => unfold maxLen; omega
          case c4 => omega
          case c5 => simp; omega
          intro v2 w2 hown2 hgrow2 _
          have R2 := (R1H.out.alloc (.cells #[.int .i64 (l - o)] 3)).grown hgrow2 (HO1.out.alloc _) HR0.out
          have HO2 := Lib.hid hown2
          clear hown2 hgrow2 hz0 hz1 hz2 hi0
          go_wp2_with fail
          go_roundw
          case rel => exact ⟨k + 1, _, by omega, by go_num, rfl, Lib.hid (by rw [HD.out, if_pos ⟨h1, h2⟩]; simpa using HO2.out), Lib.hid R2⟩
          case measure => simp [Go.RowKit.intOf]; omega
        · go_wp2_with fail
          refine (C.out).mono ?_
          rintro e w1 ⟨rfl, hw1⟩
          have R1 := HR.out.step hw1
          have hO1 := HO.out.kept (w' := w1) (row := none) ⟨hw1.os, hw1.tape, hw1.output, hw1.size, fun j hj _ => hw1.block j hj⟩ (by cases hv : v.ownBlock <;> simp)
          go_wp2_with fail
          go_roundw
          case rel => exact ⟨k + 1, _, by omega, by go_num, rfl, Lib.hid (by rw [HD.out, if_neg (by omega), List.append_nil]; exact hO1), Lib.hid R1⟩
          case measure => simp [Go.RowKit.intOf]; omega
      · go_wp2_with fail
        refine (C.out).mono ?_
        rintro e w1 ⟨rfl, hw1⟩
        have R1 := HR.out.step hw1
        have hO1 := HO.out.kept (w' := w1) (row := none) ⟨hw1.os, hw1.tape, hw1.output, hw1.size, fun j hj _ => hw1.block j hj⟩ (by cases hv : v.ownBlock <;> simp)
        go_wp2_with fail
        go_roundw
        case rel => exact ⟨k + 1, _, by omega, by go_num, rfl, Lib.hid (by rw [HD.out, if_neg (by omega), List.append_nil]; exact hO1), Lib.hid R1⟩
        case measure => simp [Go.RowKit.intOf]; omega
    · have hO := HO.out
      rw [List.take_of_length_le (by rw [HLEN.out]; omega)] at hO
      go_wp2_with fail
      go_ret2
      exact ⟨v, rfl, hO, HR.out.below⟩
set_option maxRecDepth 100000 in
set_option maxHeartbeats 2000000 in
theorem rins_any (off : Int) (a : Option Addr) (n cap : Nat) (cs : List (Int × Int)) (l : Int) (hn : n ≤ 9223372036854775807) (w : World) (hr : ChRow w w.heap.size a n cs) :
    Calls Try.prog 29 #[.agg #[.int .i64 off, .slice a n cap], .int .i64 l] w (InsA (iV off cs l) (vE off cs) w) := by
  by_cases h : vE off cs = 0
  · have e1 : iV off cs l = rI l (sg 0 off cs) := by rw [instants_same h]; unfold iV; rw [if_pos h]
    rw [e1, h]
    exact rins_ok off a n cap cs l hn h w hr
  · have e1 : iV off cs l = [] := by unfold iV; rw [if_neg h]
    have R0 := RZ.new (off := off) (cap := cap) hr
    have z0 := R0.box.c0
    have z1 := R0.box.c1
    have C := Lib.hid (rvalid_any off a n cap cs hn)
    rw [e1]
    generalize vE off cs = v at *
    have hb : (v == 0) = false := by simp [h]
    clear h e1
    go_enter Try.func29, Try.ntmps29
    go_wp2_with fail
    refine (C.out _ R0.row).mono ?_
    rintro e w1 ⟨rfl, hw1⟩
    have R1 := R0.step hw1
    go_wp2
    go_ret2
    exact ⟨_, rfl, World.ownsRow_nil _ _ _ _, R1.below⟩
end Go.Proofs.Ytbbfkpkibakieaa
