/-
  Layer 7 (records): the law's frames: a list of bytes of the call's own, at most 28 for each event. Condition: the tape's block reads as a tape.
-/
import Derived.Test.YtebdldinlodgpaaPrJs
import Derived.Test.YtebdldinlodgpaaPrJr
import Derived.Test.YtebdldinlodgpaaPrJg
import Derived.Test.YtebdldinlodgpaaPrJw
import Derived.Deep.Cut
import Derived.Deep.DeepCutAuto
import Derived.Deep.RegionWith
namespace Go.Proofs.Ytebdldinlodgpaa.Rc
open Go Go.RowKit Go.Lib Go.Sort Go.Shelf Go.Proofs Go.Proofs.Ytebdldinlodgpaa Go.Proofs.Ytebdldinlodgpaa.Tp
set_option linter.unusedVariables false

/-- The bytes while they are made: the tape, the row. -/
structure FrI (w0 : World) (b : Nat) (v : Value) (l : List Nat) (W : World) : Prop where
  tape : TapeAt b W
  only : Only b w0 W
  row : W.ownsRow w0.heap.size 5 1 v l.length (l.flatMap eB)
  lt : b < w0.heap.size
  by_ : By l
section
variable {w0 W W' : World} {b : Nat} {v v' : Value} {l m : List Nat}
theorem FrI.step (h : FrI w0 b v l W) (hT : TapeAt b W') (hO : Only b W W') : FrI w0 b v l W' :=
  ⟨hT, h.only.trans hO, row_keep h.row fun g hg => hO.block g (h.row.lt g hg).2 (by have := (h.row.lt g hg).1; have := h.lt; omega), h.lt, h.by_⟩
theorem FrI.alloc (h : FrI w0 b v l W) (o : Obj) : FrI w0 b v l (W.alloc o) :=
  ⟨h.tape.alloc o, h.only.alloc o, row_keep h.row fun g hg => Below.heap_alloc W o g (h.row.lt g hg).2, h.lt, h.by_⟩
theorem FrI.more (h : FrI w0 b v l W) (hb : Below W.heap.size W W') : FrI w0 b v l W' := h.step (h.tape.below hb) (Only.of_below hb)
theorem FrI.grown (h : FrI w0 b v l W) (hm : By m) (ho : W'.ownsRow w0.heap.size 5 1 v' (l.length + m.length) (l.flatMap eB ++ m.flatMap eB)) (hg : W.grownBy W' v.ownBlock) : FrI w0 b v' (l ++ m) W' := by
  have hlt := h.lt
  refine ⟨tape_grown h.tape hg (fun k hk => (h.row.lt k hk).1) hlt, ?_, by rw [List.length_append, List.flatMap_append]; exact ho, hlt, h.by_.app hm⟩
  exact ⟨hg.os.trans h.only.os, hg.tape.trans h.only.tape, hg.output.trans h.only.output, Nat.le_trans h.only.size hg.size, fun k hk hn =>
      (hg.block k (Nat.lt_of_lt_of_le hk h.only.size) (fun e => by have := (h.row.lt k e.symm).1; omega)).trans (h.only.block k hk hn)⟩
theorem FrI.size (h : FrI w0 b v l W) : w0.heap.size ≤ W.heap.size := h.only.size
end
theorem FrI.put {w0 W : World} {b g n cap : Nat} {l : List Nat} (h : FrI w0 b (.slice (some ⟨g, 0, none⟩) n cap) l W) (hn : n = l.length) (p V : Nat) (hV : V < 256) :
    FrI w0 b (.slice (some ⟨g, 0, none⟩) n cap) (l.set p V) (W.setCell ⟨g, p, none⟩ (.int .u8 (V : Int))) := by
  subst hn
  have hr := h.row
  obtain ⟨s1, s2⟩ := hr.stored p (.int .u8 (V : Int))
  rw [fB_set] at s1
  have hlt := hr.lt g rfl
  exact ⟨h.tape.far (p := ⟨g, p, none⟩) (by have := h.lt; show b < g; omega) _, h.only.setCell (p := ⟨g, p, none⟩) (.inr hlt.1) _, by rw [List.length_set]; exact s1, h.lt, set_out hV h.by_⟩
theorem FrI.cell {w0 W : World} {b g n cap : Nat} {l : List Nat} (h : FrI w0 b (.slice (some ⟨g, 0, none⟩) n cap) l W) (hn : n = l.length) {p : Nat} (hp : p < l.length) :
    W.cell? ⟨g, p, none⟩ = some (.int .u8 (l[p]! : Nat)) ∧ W.frozen? ⟨g, p, none⟩ = false := by
  subst hn
  refine ⟨?_, h.row.frozenAt p⟩
  have := h.row.cells (g := g) rfl p _ (fB_get l p hp)
  rwa [Addr.add_lit, Nat.zero_add] at this
theorem xor_byte (x : Nat) (y : Int) (hx : x < 256) (h0 : 0 ≤ y) (h1 : y < 255) : ∃ V : Nat, bits .xor .u8 (x : Int) (1 + y) = (V : Int) ∧ V < 256 := by
  obtain ⟨y, rfl⟩ := Int.eq_ofNat_of_zero_le h0
  exact ⟨x ^^^ (1 + y), u8_xor_nat x (1 + y) hx (by omega), Nat.xor_lt_two_pow (n := 8) hx (by omega)⟩
def FsR (b n : Nat) (w : World) (r : Ending) (w' : World) : Prop := ∃ v l, r = .returned v ∧ l.length ≤ n * 28 ∧ FrI w b v l w'
theorem three' (w : World) (x0 x1 x2 : Int) (t : TypeId) : ∀ i, i < ([x0, x1, x2] : List Int).length → (w.alloc (.cells #[.int .i64 x0, .int .i64 x1, .int .i64 x2] t)).cell? ⟨w.heap.size, i, none⟩ = some (.int .i64 (([x0, x1, x2] : List Int).getD i 0)) := by
  intro i hi
  rcases i with _ | _ | _ | i
  all_goals first | (go_simp; done) | (simp at hi; omega)

set_option maxRecDepth 100000 in
set_option maxHeartbeats 8000000 in
theorem frames_any (b n : Nat) (hn : n ≤ 100) (w : World) (h : TapeAt b w) :
    Calls Try.prog 25 #[.pointer (some ⟨b, 0, none⟩), .int .i64 n] w (FsR b n w) := by
  obtain ⟨i0, hi0, hz0, hz1, hz2⟩ := info1
  have HQ := Lib.hid (And.intro hi0 (And.intro hz0 (And.intro hz1 hz2)))
  have hlt := h.lt
  go_enter Try.func25, Try.ntmps25
  go_wp2_with fail
  refine (next_any b ((n : Int) + 1) (by omega) (by omega) _ h).mono ?_
  rintro e w1 ⟨m, rfl, m0, m1, T1, O1⟩
  obtain ⟨m, rfl⟩ := Int.eq_ofNat_of_zero_le m0
  have HI0 := Lib.hid (show FrI w b (.slice none 0 0) [] w1 from ⟨T1, O1, World.ownsRow_nil _ _ _ _, hlt, by intro x hx; simp at hx⟩)
  clear T1 O1 h m0 hi0 hz0 hz1 hz2
  go_wp2_with fail
  go_loopw [5, 6] (fun v z wr => ∃ (i : Nat) (l : List Nat), z = .int .i64 i ∧ Hid (i ≤ n ∧ l.length + i * 28 ≤ n * 28) ∧ Hid (FrI w b v l wr)) (fun _ z _ => (intOf z).toNat)
  case atStart => exact ⟨m, [], rfl, Lib.hid (by simp; omega), HI0⟩
  case round =>
    clear HI0
    obtain ⟨i, l, rfl, HLE, HI⟩ := hrel
    by_cases hpos : 0 < i
    · have t0 : decide ((0 : Int) < (i : Int)) = true := decide_eq_true (by omega)
      obtain ⟨I, hI⟩ : ∃ I, I = i - 1 := ⟨_, rfl⟩
      have wi : IntKind.i64.wrap ((i : Int) - 1) = (I : Int) := by have := HLE.out; rw [IntKind.wrap_i64]; omega
      have wi2 : (i : Int) - 1 = (I : Int) := by omega
      have hI3 : I < i := by omega
      have HL2 : Hid (I ≤ n ∧ l.length + 28 + I * 28 ≤ n * 28) := Lib.hid (by have := HLE.out; omega)
      clear hI HLE
      go_wp2_with fail
      refine (next_any b 3 (by omega) (by omega) _ HI.out.tape).mono ?_
      rintro e w2 ⟨p, rfl, p0, p1, T2, O2⟩
      have HI2 := Lib.hid (HI.out.step T2 O2)
      clear T2 O2 HI
      go_wp2_with fail
      refine (next_any b 3 (by omega) (by omega) _ HI2.out.tape).mono ?_
      rintro e w3 ⟨q, rfl, q0, q1, T3, O3⟩
      have HI3 := Lib.hid (HI2.out.step T3 O3)
      clear T3 O3 HI2
      have PQ : ∃ J : Nat, p * q = (J : Int) ∧ J ≤ 4 := by
        have hp : p = 0 ∨ p = 1 ∨ p = 2 := by omega
        have hq : q = 0 ∨ q = 1 ∨ q = 2 := by omega
        rcases hp with rfl | rfl | rfl <;> rcases hq with rfl | rfl | rfl
        · exact ⟨0, rfl, by decide⟩
        · exact ⟨0, rfl, by decide⟩
        · exact ⟨0, rfl, by decide⟩
        · exact ⟨0, rfl, by decide⟩
        · exact ⟨1, rfl, by decide⟩
        · exact ⟨2, rfl, by decide⟩
        · exact ⟨0, rfl, by decide⟩
        · exact ⟨2, rfl, by decide⟩
        · exact ⟨4, rfl, by decide⟩
      obtain ⟨J, hJ, hJ4⟩ := PQ
      have wJ : IntKind.i64.wrap (p * q) = (J : Int) := by rw [hJ, IntKind.wrap_i64]; omega
      clear p0 p1 q0 q1
      go_wp2_with fail
      go_loopw [5, 7] (fun v z wr => ∃ (j : Nat) (k : List Nat), z = .int .i64 j ∧ Hid (j ≤ 4 ∧ k.length + j ≤ l.length + 4) ∧ Hid (FrI w b v k wr)) (fun _ z _ => (intOf z).toNat)
      case atStart => exact ⟨J, l, by first | rfl | rw [hJ], Lib.hid (by omega), HI3⟩
      case round =>
        clear HI3 wJ hJ
        obtain ⟨j, k, rfl, HK, HI⟩ := hrel
        by_cases hjp : 0 < j
        · have t1 : decide ((0 : Int) < (j : Int)) = true := decide_eq_true (by omega)
          obtain ⟨j2, hj2⟩ : ∃ j2, j2 = j - 1 := ⟨_, rfl⟩
          have wj : IntKind.i64.wrap ((j : Int) - 1) = (j2 : Int) := by have := HK.out; rw [IntKind.wrap_i64]; omega
          have wj2 : (j : Int) - 1 = (j2 : Int) := by omega
          have hj3 : j2 < j := by omega
          have hj4 : j2 ≤ 4 := by have := HK.out; omega
          have HK2 : Hid (j2 ≤ 4 ∧ k.length + 1 + j2 ≤ l.length + 4) := Lib.hid (by have := HK.out; omega)
          have HK3 : Hid (k.length ≤ 3000) := Lib.hid (by have := HK.out; have := HL2.out; omega)
          clear hj2 HK
          go_wp2_with fail
          refine (next_any b 256 (by omega) (by omega) _ HI.out.tape).mono ?_
          rintro e w4 ⟨r, rfl, r0, r1, T4, O4⟩
          have HI4 := Lib.hid (HI.out.step T4 O4)
          have HI5 := Lib.hid (HI4.out.alloc (.cells #[.int .i64 0, .int .i64 193, .int .i64 r] 3))
          have ne4 : w4.heap.size ≠ b := by have := HI4.out.tape.lt; omega
          clear T4 O4 HI HI4
          go_wp2_with fail
          refine (pick_any b w4.heap.size [0, 193, r] (by simp) (by simp) ne4 _ HI5.out.tape (three' w4 0 193 r 3)).mono ?_
          rintro e w5 ⟨c, rfl, hc, T5, O5⟩
          have HI6 := Lib.hid (HI5.out.step T5 O5)
          have hc2 : 0 ≤ c ∧ c < 256 := by simp at hc; omega
          obtain ⟨c, rfl⟩ := Int.eq_ofNat_of_zero_le hc2.1
          have wc : IntKind.u8.wrap (c : Int) = (c : Int) := by rw [IntKind.wrap_u8]; omega
          have cb : c < 256 := by omega
          have HI7 := Lib.hid (HI6.out.alloc (.cells #[.int .u8 (c : Int)] 5))
          clear T5 O5 HI5 HI6 hc hc2
          have hk3 := HK3.out
          go_wp2_with (at_builtin; refine wpList_append_own _ rfl _ _ 27 rfl w.heap.size 5 i0 (.int .u8 0) 1 1 Try.underlying27 HQ.out.1 HQ.out.2.1 HQ.out.2.2.1 HQ.out.2.2.2 rfl (by decide) _ _ _ rfl HI7.out.row ⟨w5.heap.size, 0, none⟩ 1 1 [.int .u8 (c : Int)] rfl rfl (one_new _ _ _) ?m2 ?m3 ?m4 HI7.out.size ?_)
          case m2 => intro x hx; simp at hx; subst hx; rfl
          case m3 => unfold maxLen; omega
          case m4 => omega
          intro v6 w6 hown hgrow _
          have HI8 := Lib.hid (HI7.out.grown (m := [c]) (by intro x hx; simp at hx; omega) hown hgrow)
          clear hown hgrow HI7
          go_wp2_with fail
          go_roundw
          case rel => exact ⟨j2, _, by go_num, Lib.hid (by have := HK2.out; simp; omega), HI8⟩
          case measure => simp [intOf]; omega
        · have t1 : decide ((0 : Int) < (j : Int)) = false := decide_eq_false (by omega)
          have HK3 : Hid (k.length + 24 + I * 28 ≤ n * 28) := Lib.hid (by have := HK.out; have := HL2.out; omega)
          have HIn : Hid (I ≤ n) := Lib.hid HL2.out.1
          clear HK HL2
          go_wp2_with fail
          refine (gevent_any b _ HI.out.tape).mono ?_
          rintro r w5 ⟨e, rfl, oke, T5, O5⟩
          have HI5 := Lib.hid (HI.out.step T5 O5)
          clear T5 O5 HI
          have EC : Hid (∀ W, Calls Try.prog 18 #[vE e] W fun r W' => ∃ a cap, r = .returned (.tuple #[.slice a 24 cap, .int .i64 0]) ∧ OwnB W (.slice a 24 cap) (frame e) W') := Lib.hid (fun W => renc_ok e oke W)
          have FE := Lib.hid (frame_len e)
          have FB := Lib.hid (frame_by oke)
          clear oke
          generalize frame e = F at *
          obtain ⟨kt, ks, em, ti, ki, tt, ts⟩ := e
          unfold vE at EC ⊢
          simp only at EC ⊢
          go_wp2_with fail
          refine (EC.out _).mono ?_
          rintro r w6 ⟨a3, c3, rfl, h3⟩
          have R3 := Lib.hid (OwnB.brow h3 FB.out).1
          obtain ⟨x, hx, _⟩ := R3.out.2.2 (by decide)
          subst hx
          have HI6 := Lib.hid (HI5.out.more (OwnL.below h3))
          have NW := Lib.hid (BRow.news R3.out)
          have NL : Hid ((F.flatMap eB).length = 24 * 1) := Lib.hid (by rw [fB_len, FE.out])
          have hk3 := HK3.out
          clear h3 HI5 R3 EC
          go_wp2_with (at_builtin; refine wpList_append_own _ rfl _ _ 27 rfl w.heap.size 5 i0 (.int .u8 0) 1 1 Try.underlying27 HQ.out.1 HQ.out.2.1 HQ.out.2.2.1 HQ.out.2.2.2 rfl (by decide) _ _ _ rfl HI6.out.row x 24 c3 (F.flatMap eB) rfl NL.out NW.out (fB_one F) ?n3 ?n4 HI6.out.size ?_)
          case n3 => have h1 := FE.out; have h2 := HK3.out; unfold maxLen; omega
          case n4 => have h1 := FE.out; have h2 := HK3.out; omega
          intro v7 w7 hown hgrow _
          have HI7 := Lib.hid (HI6.out.grown (m := F) FB.out (by rw [FE.out]; exact hown) hgrow)
          clear hown hgrow HI6 NW NL
          go_wp2_with fail
          go_roundw
          case rel => exact ⟨I, _, by go_num, Lib.hid (by have := HIn.out; have := FE.out; simp; omega), HI7⟩
          case measure => simp [intOf]; omega
    · have t0 : decide ((0 : Int) < (i : Int)) = false := decide_eq_false (by omega)
      have HL : Hid (l.length ≤ n * 28) := Lib.hid (by have := HLE.out; omega)
      clear HLE
      have FM : (∃ A C, u5 = .slice A 0 C ∧ l = []) ∨ ∃ g cap, u5 = .slice (some ⟨g, 0, none⟩) l.length cap ∧ 0 < l.length ∧ w.heap.size ≤ g := by
        rcases HI.out.row.2 with ⟨e, h0⟩ | ⟨g, cap, cur, e, h1, _⟩
        · exact .inl ⟨none, 0, e, List.length_eq_zero_iff.1 h0⟩
        · rcases Nat.eq_zero_or_pos l.length with h0 | h0
          · exact .inl ⟨_, cap, by rw [e, h0], List.length_eq_zero_iff.1 h0⟩
          · exact .inr ⟨g, cap, e, h0, h1⟩
      rcases FM with ⟨A, C, rfl, rfl⟩ | ⟨g, cap, rfl, hpe, hge⟩
      · go_wp2_with fail
        go_ret
        exact ⟨_, _, rfl, HL.out, HI.out⟩
      · have t1 : decide ((0 : Int) < (l.length : Int)) = true := decide_eq_true (by omega)
        generalize hN : l.length = N at *
        have HN := Lib.hid hN
        clear hN
        go_wp2_with fail
        refine (next_any b 2 (by omega) (by omega) _ HI.out.tape).mono ?_
        rintro e w2 ⟨q, rfl, q0, q1, T2, O2⟩
        have HI2 := Lib.hid (HI.out.step T2 O2)
        clear T2 O2 HI
        by_cases q7 : q = 0
        · subst q7
          have NN : Hid (N ≤ 2800) := Lib.hid (by have := HL.out; omega)
          have HI2d := Lib.hid (HI2.out.more (Below.drew (Below.refl _ _)))
          have gb : b < g := by omega
          have HBY := Lib.hid (fun j (hj : j < N) => show l[j]! < 256 from HI2.out.by_ _ (by rw [getElem!_pos l j (by have := HN.out; omega)]; exact List.getElem_mem _))
          clear HI2
          go_upto_region 12 with fail
          go_region_with (first
            | (go_at_call 27; (with_reducible refine (next_any b 255 (by omega) (by omega) _ HI3.out.tape).mono ?_); rintro e w4 ⟨y, rfl, y0, y1, T4, O4⟩; have HI4 := Lib.hid (HI3.out.step T4 O4); obtain ⟨ck, fk⟩ := HI4.out.cell HN.out.symm (p := j) (by have := HN.out; omega); rw [hxj.out] at ck; obtain ⟨V, hV0, hV2⟩ := xor_byte xj y bj y0 y1; have hV : Hid (bits .xor .u8 (xj : Int) (IntKind.u8.wrap (IntKind.i64.wrap (1 + y))) = (V : Int)) := Lib.hid (by rw [show IntKind.u8.wrap (IntKind.i64.wrap (1 + y)) = 1 + y by (rw [IntKind.wrap_i64, IntKind.wrap_u8]; omega)]; exact hV0); clear T4 O4 hV0)
            | (go_at_call 27; (with_reducible refine (next_any b N (by omega) (by have := NN.out; omega) _ HI2d.out.tape).mono ?_); rintro e w3 ⟨z, rfl, z0, z1, T3, O3⟩; obtain ⟨j, rfl⟩ := Int.eq_ofNat_of_zero_le z0; have HI3 := Lib.hid (HI2d.out.step T3 O3); have jl : j < N := (by omega); obtain ⟨cj, fj⟩ := HI3.out.cell HN.out.symm (p := j) (by have := HN.out; omega); have bj := HBY.out j jl; obtain ⟨xj, hxj0⟩ : ∃ xj, l[j]! = xj := ⟨_, rfl⟩; have hxj := Lib.hid hxj0; clear hxj0; rw [hxj.out] at cj bj; clear T3 O3))
          all_goals
            have HP := Lib.hid (HI4.out.put HN.out.symm j V hV2)
            go_wp2_with fail
            go_ret
            exact ⟨_, l.set j V, rfl, by rw [List.length_set, HN.out]; exact HL.out, by have h := HP.out; rw [← hV.out] at h; exact h⟩
        · have t7 : (q == 0) = false := by simpa using q7
          go_wp2_with fail
          go_ret
          exact ⟨_, l, rfl, by rw [HN.out]; exact HL.out, HI2.out⟩
end Go.Proofs.Ytebdldinlodgpaa.Rc
