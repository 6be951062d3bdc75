/-
  Layer 7 (records): the law's examples: some, sane: true. No condition.
-/
import Derived.Test.YtebdldinlodgpaaPrJq
import Derived.Test.YtebdldinlodgpaaPrJf
import Derived.Deep.RegionHeld3
import Derived.Lib.SlBytesConst
namespace Go.Proofs.Ytebdldinlodgpaa.Rc
open Go Go.RowKit Go.Lib Go.Sort Go.Shelf Go.Proofs Go.Proofs.Ytebdldinlodgpaa Go.Proofs.Ytebdldinlodgpaa.Tp
set_option linter.unusedVariables false

def e0 : Ev := ⟨3, 9, 7, 29453760, 1, 0, 0⟩
theorem e0_ok : okE e0 = true := by decide
theorem dec_sane : dec ([1, 2, 3] ++ frame e0) = ([e0], [(0, 3)], 27) := by kernel_rfl
theorem crc_nine : crc [49, 50, 51, 52, 53, 54, 55, 56, 57] = 10673 := by kernel_rfl
def SoR (w : World) (r : Ending) (w' : World) : Prop := r = .returned (.agg #[.int .i64 3, .int .i64 9, .int .i64 7, .int .i64 29453760, .int .i64 1, .int .i64 0, .int .i64 0]) ∧ Below w.heap.size w w'
set_option maxRecDepth 100000 in
set_option maxHeartbeats 1000000 in
theorem some_any (w : World) : Calls Try.prog 26 #[] w (SoR w) := by
  go_enter Try.func26, Try.ntmps26
  go_wp2_with fail
  exact bodyPost_ret (v := .agg #[.int .i64 3, .int .i64 9, .int .i64 7, .int .i64 29453760, .int .i64 1, .int .i64 0, .int .i64 0]) (by simp [results, Try.results26, go_sem]) rfl ⟨rfl, (Below.refl _ _).alloc (Nat.le_refl _) _⟩

theorem OwnB.lit3 (w : World) (x y z : Nat) : OwnB w (.slice (some ⟨w.heap.size, 0, none⟩) 3 3) [x, y, z] (w.alloc (.cells #[.int .u8 (x : Int), .int .u8 (y : Int), .int .u8 (z : Int)] 5)) :=
  ⟨⟨rfl, .inr ⟨w.heap.size, 3, _, rfl, Nat.le_refl _, heap_alloc_new w _, Nat.le_refl _, by unfold maxLen; omega, rfl, rfl⟩⟩, (Below.refl _ _).alloc (Nat.le_refl _) _⟩
/-- The bytes of a row, to be appended. -/
theorem BRow.news {w : World} {x : Addr} {n : Nat} {bs : List Nat} (h : BRow w (some x) n bs) : ∀ j u, (bs.flatMap eB)[j]? = some u → w.cell? (x.add j) = some u := by
  intro j u hu
  have hj : j < bs.length := by
    rw [List.getElem?_eq_some_iff] at hu
    obtain ⟨hj, _⟩ := hu
    rwa [fB_len] at hj
  rw [fB_get _ _ hj] at hu
  injection hu with hu
  subst hu
  obtain ⟨y, hy, hc⟩ := h.2.2 (by have := h.1; omega)
  injection hy with hy; subst hy
  exact hc j (by have := h.1; omega)
theorem fB_one (bs : List Nat) : ∀ u ∈ bs.flatMap eB, u.oneCell' = true := by
  intro u hu
  rw [List.mem_flatMap] at hu
  obtain ⟨c, _, hc⟩ := hu
  simp [eB] at hc
  subst hc; rfl
theorem cell_new_fr (W : World) (cs : Array Value) (t : TypeId) (fr : Nat × Nat) (i : Nat) (v : Value) (h : cs[i]? = some v) : (W.alloc (.cells cs t fr)).cell? ⟨W.heap.size, i, none⟩ = some v := by
  have : (W.alloc (.cells cs t fr)).heap[W.heap.size]? = some (.cells cs t fr) := by
    show (W.heap.push _)[W.heap.size]? = _
    simp
  unfold World.cell?
  simp only [this]
  exact h
theorem nine_row (W : World) : BRow (W.alloc (.cells #[.int .u8 49, .int .u8 50, .int .u8 51, .int .u8 52, .int .u8 53, .int .u8 54, .int .u8 55, .int .u8 56, .int .u8 57] 5 (9, 10))) (some ⟨W.heap.size, 0, none⟩) 9 [49, 50, 51, 52, 53, 54, 55, 56, 57] := by
  refine ⟨rfl, by intro x hx; simp at hx; omega, fun _ => ⟨_, rfl, fun i hi => ?_⟩⟩
  rcases i with _ | _ | _ | _ | _ | _ | _ | _ | _ | i
  all_goals first | omega | (rw [Addr.add_lit, Nat.zero_add]; exact cell_new_fr _ _ _ _ _ _ rfl)
theorem one_e {W : World} {v : Value} {e : Ev} (h : ERow W v [e]) : ∃ g C, v = .slice (some ⟨g, 0, none⟩) 1 C ∧ At7 W g 0 e := by
  obtain ⟨A, C, hv, h⟩ := h
  obtain ⟨g, hg, hc⟩ := h (by simp)
  subst hg
  exact ⟨g, C, hv, hc 0 (by simp)⟩
theorem one_g {W : World} {v : Value} {q : Nat × Nat} (h : GRow W v [q]) : ∃ g C, v = .slice (some ⟨g, 0, none⟩) 1 C ∧ W.cell? ⟨g, 0, none⟩ = some (.int .i64 (q.1 : Int)) ∧ W.cell? ⟨g, 1, none⟩ = some (.int .i64 (q.2 : Int)) := by
  obtain ⟨A, C, hv, h⟩ := h
  obtain ⟨g, hg, hc⟩ := h (by simp)
  subst hg
  exact ⟨g, C, hv, hc 0 (by simp)⟩
theorem keep_and {w W : World} {B : Nat} {P : World → Prop} (h : ∀ W, Below B w W → P W) (hb : Below B w W) : Below B w W ∧ P W := ⟨hb, h W hb⟩

set_option maxRecDepth 100000 in
set_option maxHeartbeats 4000000 in
theorem sane_any (w : World) : Calls Try.prog 23 #[] w (TrueR w) := by
  have C1 : Hid (∀ w, Calls Try.prog 17 #[.agg #[.int .i64 3, .int .i64 9, .int .i64 7, .int .i64 29453760, .int .i64 1, .int .i64 0, .int .i64 0]] w (EncR e0 w)) := Lib.hid (fun w => enc_ok e0 e0_ok w)
  have C2 : Hid (∀ w, Calls Try.prog 17 #[.agg #[.int .i64 0, .int .i64 0, .int .i64 0, .int .i64 0, .int .i64 0, .int .i64 0, .int .i64 0]] w (EncE w)) := Lib.hid (fun w => enc_bad zE (by decide) w)
  have FL : Hid ((frame e0).length = 24) := Lib.hid (frame_len _)
  have FB : Hid (By (frame e0)) := Lib.hid (frame_by e0_ok)
  have DS := Lib.hid dec_sane
  obtain ⟨i0, hi0, hz0, hz1, hz2⟩ := info1
  have HQ := Lib.hid (And.intro hi0 (And.intro hz0 (And.intro hz1 hz2)))
  clear hi0 hz0 hz1 hz2
  go_enter Try.func23, Try.ntmps23
  go_wp2_with fail
  refine (some_any _).mono ?_
  rintro r w1 ⟨rfl, b1⟩
  have B1 := Lib.hid b1
  clear b1
  go_wp2_with fail
  refine (C1.out _).mono ?_
  rintro r w2 ⟨a, cap, rfl, h2⟩
  have O2 : Hid (OwnB w1 (.slice a 24 cap) (frame e0) w2) := Lib.hid h2
  have B2 := Lib.hid (B1.out.trans ((OwnL.below h2).mono B1.out.size))
  clear h2 C1 B1
  go_upto_region 2 with fail
  have R2 := Lib.hid (OwnB.brow O2.out FB.out).1
  obtain ⟨x, hx, _⟩ := R2.out.2.2 (by decide)
  subst hx
  have O3 : Hid (OwnB w2 (.slice (some ⟨w2.heap.size, 0, none⟩) 3 3) [1, 2, 3] (w2.alloc (.cells #[.int .u8 1, .int .u8 2, .int .u8 3] 5))) := Lib.hid (OwnB.lit3 w2 1 2 3)
  have R3 := Lib.hid (R2.out.more (OwnL.below O3.out))
  have NW := Lib.hid (BRow.news R3.out)
  have NL : Hid (((frame e0).flatMap eB).length = 24 * 1) := Lib.hid (by rw [fB_len, FL.out])
  generalize frame e0 = F at *
  go_wp2_with (at_builtin; refine wpList_append_own _ rfl _ _ 27 rfl w2.heap.size 5 i0 (.int .u8 0) 1 1 Try.underlying27 HQ.out.1 HQ.out.2.1 HQ.out.2.2.1 HQ.out.2.2.2 rfl (by decide) _ _ _ rfl (OwnL.row O3.out) x 24 cap (F.flatMap eB) rfl NL.out NW.out (fB_one F) ?m3 ?m4 (OwnL.below O3.out).size ?_)
  case m3 => decide
  case m4 => decide
  intro v4 w4 hown hgrow _
  have O4 : Hid (OwnB w2 v4 ([1, 2, 3] ++ F) w4) := Lib.hid (OwnL.grown (m := F) O3.out (by rw [FL.out]; exact hown) hgrow)
  clear hown hgrow O3 R3 NW NL
  have BY : Hid (By ([1, 2, 3] ++ F)) := Lib.hid (By.app (by intro x hx; simp at hx; omega) FB.out)
  obtain ⟨A4, C4, hv⟩ := OwnB.done (n := 27) O4.out (by simp [FL.out]) (by decide)
  subst hv
  have CP4 : 27 ≤ C4 := by
    rcases OwnL.form O4.out with ⟨e, _⟩ | ⟨g, cap', e, _, _, h3, _⟩
    · injection e with e1 e2 e3; omega
    · injection e with e1 e2 e3; omega
  have B4 := Lib.hid (B2.out.trans ((OwnL.below O4.out).mono B2.out.size))
  have DC : Hid (Calls Try.prog 29 #[.slice A4 27 C4] w4 (DcR ([1, 2, 3] ++ F) w4)) := Lib.hid (decode_any A4 27 C4 _ (by decide) CP4 w4 (OwnB.brow O4.out BY.out).1)
  unfold DcR at DC
  rw [DS.out] at DC
  simp only at DC
  clear O2 R2 O4 BY FL FB DS B2 CP4
  go_wp2_with fail
  refine DC.out.mono ?_
  rintro r w5 ⟨ev, gv, rfl, I5⟩
  have E5 := Lib.hid (OwnE.erow I5.e)
  have G5 := Lib.hid (OwnG.grow I5.g)
  have B5 := Lib.hid (B4.out.trans ((OwnL.below I5.e).mono B4.out.size))
  clear I5 DC B4
  obtain ⟨ge, EC, hev, he⟩ := one_e E5.out
  obtain ⟨gg, GC, hgv, hg⟩ := one_g G5.out
  subst hev
  subst hgv
  have HE5 := Lib.hid he
  have HG5 := Lib.hid hg
  clear he hg E5 G5
  go_wp2_with fail
  refine (C2.out _).mono ?_
  rintro r w6 ⟨rfl, b6⟩
  have B6 := Lib.hid (B5.out.trans (b6.mono B5.out.size))
  have CF : Hid (∀ W, Below w6.heap.size w6 W → W.cell? ⟨ge, 0, none⟩ = some (.int .i64 3) ∧ W.cell? ⟨ge, 1, none⟩ = some (.int .i64 9) ∧ W.cell? ⟨ge, 2, none⟩ = some (.int .i64 7) ∧ W.cell? ⟨ge, 3, none⟩ = some (.int .i64 29453760) ∧ W.cell? ⟨ge, 4, none⟩ = some (.int .i64 1) ∧ W.cell? ⟨ge, 5, none⟩ = some (.int .i64 0) ∧ W.cell? ⟨ge, 6, none⟩ = some (.int .i64 0) ∧ W.cell? ⟨gg, 0, none⟩ = some (.int .i64 0) ∧ W.cell? ⟨gg, 1, none⟩ = some (.int .i64 3)) := Lib.hid fun W hb => by
    have hb5 := b6.trans (hb.mono b6.size)
    obtain ⟨a0, a1, a2, a3, a4, a5, a6⟩ := HE5.out.keep (hb5.block ge HE5.out.lt)
    exact ⟨a0, a1, a2, a3, a4, a5, a6, (hb5.cell (World.block_lt_of_cell? w5 _ HG5.out.1)).trans HG5.out.1, (hb5.cell (World.block_lt_of_cell? w5 _ HG5.out.2)).trans HG5.out.2⟩
  clear b6 HE5 HG5 C2 B5
  have SO : Hid (∀ W, Below w6.heap.size w6 W → Calls Try.prog 26 #[] W fun r W' => r = .returned (.agg #[.int .i64 3, .int .i64 9, .int .i64 7, .int .i64 29453760, .int .i64 1, .int .i64 0, .int .i64 0]) ∧ Below w6.heap.size w6 W') :=
    Lib.hid fun W hb => (some_any W).mono fun _ _ h => ⟨h.1, hb.trans (h.2.mono hb.size)⟩
  have SN : Hid (∀ W : World, Calls Try.prog 21 #[.slice none 0 0] W fun r W' => r = .returned (.int .i64 65535) ∧ W' = W) :=
    Lib.hid fun W => sum_any none 0 0 [] (by decide) W ⟨rfl, by intro x hx; simp at hx, fun h => absurd h (by decide)⟩
  have SL : Hid (∀ W : World, Calls Try.prog 21 #[.slice (some ⟨W.heap.size, 0, none⟩) 9 9] (W.alloc (.cells #[.int .u8 49, .int .u8 50, .int .u8 51, .int .u8 52, .int .u8 53, .int .u8 54, .int .u8 55, .int .u8 56, .int .u8 57] 5 (9, 10))) fun r W' => r = .returned (.int .i64 10673) ∧ W' = W.alloc (.cells #[.int .u8 49, .int .u8 50, .int .u8 51, .int .u8 52, .int .u8 53, .int .u8 54, .int .u8 55, .int .u8 56, .int .u8 57] 5 (9, 10))) :=
    Lib.hid fun W => by
      have := sum_any (some ⟨W.heap.size, 0, none⟩) 9 9 _ (by decide) _ (nine_row W)
      rw [crc_nine] at this
      exact this
  have kc := fun (w : World) (C : Array Value) (n c : Nat) => Lib.run_convert_bytes_const (P := Try.prog) w 27 5 C n c Try.underlying27 Try.underlying5
  have QE := fun W => eql_ev e0 e0 W
  have QG := fun W => eql_gap 0 3 W
  have GE := fun op a b W => run_eqGuard_agg (P := Try.prog) W op 26 a b #[.int .i64 3, .int .i64 9, .int .i64 7, .int .i64 29453760, .int .i64 1, .int .i64 0, .int .i64 0] #[.int .i64 3, .int .i64 9, .int .i64 7, .int .i64 29453760, .int .i64 1, .int .i64 0, .int .i64 0] grd_ev
  have GG := fun op a b W => run_eqGuard_agg (P := Try.prog) W op 55 a b #[.int .i64 0, .int .i64 3] #[.int .i64 0, .int .i64 3] grd_gap
  rw [eqE_self] at QE
  unfold e0 at QE
  simp only at QE
  have K0 : Hid (Below w6.heap.size w6 w6.drew) := Lib.hid (Below.drew (Below.refl _ _))
  go_upto_region 4 with fail
  go_cut [0] (fun s wx => s = .bool true ∧ Hid (Below w6.heap.size w6 wx))
  case first =>
    first
      | (go_region_held (fun w' => Below w6.heap.size w6 w' ∧ w'.cell? ⟨ge, 0, none⟩ = some (.int .i64 3) ∧ w'.cell? ⟨ge, 1, none⟩ = some (.int .i64 9) ∧ w'.cell? ⟨ge, 2, none⟩ = some (.int .i64 7) ∧ w'.cell? ⟨ge, 3, none⟩ = some (.int .i64 29453760) ∧ w'.cell? ⟨ge, 4, none⟩ = some (.int .i64 1) ∧ w'.cell? ⟨ge, 5, none⟩ = some (.int .i64 0) ∧ w'.cell? ⟨ge, 6, none⟩ = some (.int .i64 0) ∧ w'.cell? ⟨gg, 0, none⟩ = some (.int .i64 0) ∧ w'.cell? ⟨gg, 1, none⟩ = some (.int .i64 3))
          (((with_reducible refine keep_and CF.out ?_); (repeat (first | (with_reducible assumption) | (with_reducible exact Below.refl _ _) | (with_reducible refine Below.drew ?_) | (with_reducible refine below_al ?_ _)))))
          (first
            | (go_at_call 26; go_split_ands; (with_reducible refine (SO.out _ (by with_reducible assumption)).mono ?_); rintro e w7 ⟨rfl, b7⟩)
            | (go_at_call 21; (with_reducible refine (SN.out _).mono ?_); rintro e w8 ⟨rfl, rfl⟩)
            | (go_at_call 21; (refine (SL.out _).mono ?_); rintro e w9 ⟨rfl, rfl⟩)))
      | fail
    all_goals go_split_ands
    all_goals go_wp2_with fail
    all_goals go_meet
    all_goals exact ⟨rfl, Lib.hid (by with_reducible assumption)⟩
  case rest =>
    obtain ⟨hs, HB⟩ := hcut
    subst hs
    go_wp2_with fail
    go_ret
    exact ⟨rfl, B6.out.trans (HB.out.mono B6.out.size)⟩
end Go.Proofs.Ytebdldinlodgpaa.Rc
