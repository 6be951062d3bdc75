/-
  The generator's Zone: whatever the tape holds, a valid zone of at most three changes. Condition: the tape's block reads as a tape.
-/
import Derived.Test.YtbbfkpkibakieaaPrZk
import Derived.Deep.RegionHeld3
import Derived.Deep.LoopGhost
namespace Go.Proofs.Ytbbfkpkibakieaa.Tp
open Go Go.RowKit Go.Lib Go.Proofs.Ytbbfkpkibakieaa

set_option maxRecDepth 100000 in
set_option maxHeartbeats 4000000 in
theorem gzone_any (b : Nat) (w : World) (h : TapeAt b w) :
    Calls Try.prog 14 #[.pointer (some ⟨b, 0, none⟩)] w (ZoneR b w) := by
  have hb := h.lt
  obtain ⟨i0, hi0, hz0, hz1, hz2⟩ := info_parts infoChg
  go_enter Try.func14, Try.ntmps14
  go_wp2_with fail
  have hR0 : (w.alloc (.cells #[.int .i64 0, .slice none 0 0] 24)).heap[w.heap.size]? = some (.cells #[.int .i64 0, .slice none 0 0] 24 (0, 0)) := World.alloc_heap_new w _
  have T0 := TapeAt.alloc h (.cells #[.int .i64 0, .slice none 0 0] 24)
  have O0 := (Only.refl b w).alloc (.cells #[.int .i64 0, .slice none 0 0] 24)
  have hs0 : (w.alloc (.cells #[.int .i64 0, .slice none 0 0] 24)).heap.size = w.heap.size + 1 := by simp
  refine (pick_any b (w.heap.size + 1) [0, 60, -300, 840, -840, 570] (by simp) (by simp) (by omega) _ (T0.alloc _) (by have := six (w.alloc (.cells #[.int .i64 0, .slice none 0 0] 24)) 0 60 (-300) 840 (-840) 570 3; rwa [hs0] at this)).mono ?_
  rintro e w1 ⟨off, rfl, m1, T1, O1⟩
  simp only [List.mem_cons, List.not_mem_nil, or_false] at m1
  have off0 : -840 ≤ off := by omega
  have off1 : off ≤ 840 := by omega
  have hR1 : w1.heap[w.heap.size]? = some (.cells #[.int .i64 0, .slice none 0 0] 24 (0, 0)) := (O1.block _ (by simp; omega) (by omega)).trans ((Below.heap_alloc _ _ _ (by simp)).trans hR0)
  have O01 : Only b w w1 := (O0.alloc _).trans O1
  have hs1 : w.heap.size + 2 ≤ w1.heap.size := by have := O1.size; simp at this; omega
  clear m1 T0 O0 O1 hR0 hs0
  go_wp2_with fail
  have G1 : ZG w b w.heap.size w1.heap.size (w1.heap.size + 1) off (.slice none 0 0) [] (w1.alloc (.cells #[.int .i64 off, .slice none 0 0] 24)) :=
    ⟨World.alloc_heap_new w1 _, (Below.heap_alloc _ _ _ (by omega)).trans hR1, World.ownsRow_nil _ _ _ _, T1.alloc _, O01.alloc _, by simp⟩
  have hs2 : (w1.alloc (.cells #[.int .i64 off, .slice none 0 0] 24)).heap.size = w1.heap.size + 1 := by simp
  refine (pick_any b (w1.heap.size + 1) [0, 29453760, 29455200, 29456700, 29453060] (by simp) (by simp) (by omega) _ (G1.alloc _).tape (by have := fiv (w1.alloc (.cells #[.int .i64 off, .slice none 0 0] 24)) 0 29453760 29455200 29456700 29453060 3; rwa [hs2] at this)).mono ?_
  rintro e w2 ⟨at0, rfl, m2, T2, O2⟩
  simp only [List.mem_cons, List.not_mem_nil, or_false] at m2
  have at1 : 0 ≤ at0 := by omega
  have at2 : at0 ≤ 29456700 := by omega
  have G2 := (G1.alloc _).only' O2 T2 (by omega) (by omega) (by omega)
  clear m2 T1 T2 O2 hs2 G1 hR1 O01
  go_wp2_with fail
  refine (next_any b 4 (by omega) (by omega) _ G2.tape).mono ?_
  rintro e w3 ⟨i1, rfl, n0, n1, T3, O3⟩
  obtain ⟨i1, rfl⟩ := Int.eq_ofNat_of_zero_le n0
  have hi1 : i1 ≤ 3 := by omega
  have G3 := G2.only' O3 T3 (by omega) (by omega) (by omega)
  clear T3 O3 G2 n0 n1
  have lo1 : b < w1.heap.size := by omega
  have HZ : Hid (w.heap.size + 2 ≤ w1.heap.size) := Lib.hid hs1
  go_wp2_with fail
  go_loopw [4, 5] (fun x y wr => ∃ (i : Nat) (at_ : Int) (v : Value) (cs : List (Int × Int)), x = .int .i64 at_ ∧ y = .int .i64 i ∧ cs.length + i ≤ 3 ∧ 0 ≤ at_ ∧ at_ ≤ 29456700 + 4320 * cs.length ∧ Hid (Asc (-1) cs) ∧ Hid (∀ c ∈ cs, c.1 < at_) ∧ Hid (ZG w b w.heap.size w1.heap.size (w1.heap.size + 1) off v cs wr)) (fun _ y _ => (Go.RowKit.intOf y).toNat)
  case atStart => exact ⟨i1, at0, _, [], rfl, rfl, by simp; omega, at1, by simp; omega, Lib.hid trivial, Lib.hid (fun c hc => by simp at hc), Lib.hid G3⟩
  case round =>
    obtain ⟨i, at_, v, cs, rfl, rfl, hl, h0, h1, HA, HL, HG⟩ := hrel
    clear G3
    cases i with
    | zero =>
      have g0 := HG.out.c0
      have g1 := HG.out.c1
      have r0 := HG.out.r0
      have r1 := HG.out.r1
      have q0 := HG.out.q0
      have q1 := HG.out.q1
      obtain ⟨A, cap, rfl, hrow, hbl⟩ := chRow_own (n := cs.length) rfl HG.out.row
      have HR := Lib.hid hrow
      have HBL := Lib.hid hbl
      clear hrow hbl
      go_wp2
      refine bodyPost_ret (v := .agg #[.int .i64 off, .slice A cs.length cap]) (by simp [results, Try.results14, go_sem, r0, r1]) rfl ⟨off, A, cs.length, cap, cs, rfl, ?_, hl, ?_, fun y hy => by have := HBL.out y hy; omega, ?_, ?_⟩
      · unfold vE; rw [if_neg (by omega), if_neg (by omega)]; exact asc_vL _ _ HA.out
      · have := ChRow.far (ChRow.far HR.out ⟨w.heap.size, 0, none⟩ (.int .i64 off) (fun y hy => by have := HBL.out y hy; show w.heap.size ≠ y.block; omega)) ⟨w.heap.size, 1, none⟩ (.slice A cs.length cap) (fun y hy => by have := HBL.out y hy; show w.heap.size ≠ y.block; omega)
        exact this.mono (by simp [World.setCell])
      · exact (HG.out.tape.far (p := ⟨w.heap.size, 0, none⟩) hb _).far (p := ⟨w.heap.size, 1, none⟩) hb _
      · exact (HG.out.only.setCell (p := ⟨w.heap.size, 0, none⟩) (.inr (Nat.le_refl _)) _).setCell (p := ⟨w.heap.size, 1, none⟩) (.inr (Nat.le_refl _)) _
    | succ i =>
      have hG := HG.out
      have g1 := hG.c1
      have gf := hG.f1
      have gz := hG.size
      have gz' : w1.heap.size < wr.heap.size := by omega
      have hcap : cs.length + 1 ≤ 3 := by omega
      have hp := six wr 60 120 0 (-300) 840 (-840) 3
      have HP := Lib.hid hp
      clear HG hp
      go_wp2_with fail
      go_region_law (first
          | (go_simp; go_at_call 15; refine (pick_any b wr.heap.size [60, 120, 0, -300, 840, -840] (by simp) (by simp) (by omega) _ ((hG.alloc _).drew).tape (fun i hi => HP.out i hi)).mono ?_; rintro e w5 ⟨q, rfl, m5, T5, O5⟩; have G5 := ((hG.alloc _).drew).only' O5 T5 (by omega) lo1 (by omega); have z5 := G5.size; have z5' : w1.heap.size < w5.heap.size := (by omega); have k5 := G5.c1; have f5 := G5.f1; clear T5 O5)
          | (refine step_append_lies _ (by rfl) _ _ _ (by rfl) (w1.heap.size + 1) 27 i0 _ 2 16 Try.underlying22 hi0 hz0 hz1 hz2 rfl (by omega) v cs.length (cs.flatMap ccells) (by rfl) (G5.row.alloc _)
              ⟨w5.heap.size, 0, none⟩ 1 1 [.int .i64 at_, .int .i64 q] (by rfl) (by rfl) (World.news_of_block (cs := #[.int .i64 at_, .int .i64 q]) (t := 27) (fr := (0, 0)) (heap_alloc_new w5 _)) (by simp [Value.oneCell'])
              (by omega) (by unfold maxLen; omega) (by omega) (by simp; omega) (w5.heap.size + 1) (by simp) ?_; intro gg cap w6 hown1 hgrow hat hlt; have e6 := (ZG.far6 (G5.alloc _) hgrow).1; have k6 := boxc1 e6; have l6 := boxf1 e6))
      all_goals
        have G6 := (G5.alloc (.cells #[.int .i64 at_, .int .i64 q] 27)).stored (c := (at_, q)) hgrow hown1 lo1 (by omega) (by omega) (by omega) (by omega)
        clear e6 k6 l6 hown1 hgrow hat hlt k5 f5 G5 z5 z5'
        simp only [List.mem_cons, List.not_mem_nil, or_false] at m5
        have q0 : -840 ≤ q := by omega
        have q1 : q ≤ 840 := by omega
        clear m5
        have HA2 : Hid (Asc (-1) (cs ++ [(at_, q)])) := Lib.hid (asc_snoc HA.out HL.out (by omega) h0 (by omega) q0 q1)
        generalize w6.setCell ⟨w1.heap.size, 1, none⟩ (.slice (some ⟨gg, 0, none⟩) (cs.length + 1) cap) = w7 at *
        go_wp2_with fail
        refine (pick_any b w7.heap.size [60, 1440, 30, 4320, 1] (by simp) (by simp) (by have := G6.size; omega) _ (G6.alloc _).tape (fiv w7 60 1440 30 4320 1 3)).mono ?_
        rintro e w8 ⟨q2, rfl, m8, T8, O8⟩
        have G8 := (G6.alloc _).only' O8 T8 (by omega) lo1 (by omega)
        simp only [List.mem_cons, List.not_mem_nil, or_false] at m8
        have r0 : 1 ≤ q2 := by omega
        have r1 : q2 ≤ 4320 := by omega
        clear m8 T8 O8 G6
        go_wp2_with fail
        go_roundw
        case rel => exact ⟨i, at_ + q2, _, cs ++ [(at_, q)], rfl, by go_num, by simp; omega, by omega, by simp; omega, HA2, Lib.hid (fun c hc => (List.mem_append.1 hc).elim (fun h => by have := HL.out c h; omega) (fun h => by simp at h; subst h; show at_ < at_ + q2; omega)), Lib.hid G8⟩
        case measure => simp [Go.RowKit.intOf]
end Go.Proofs.Ytbbfkpkibakieaa.Tp
