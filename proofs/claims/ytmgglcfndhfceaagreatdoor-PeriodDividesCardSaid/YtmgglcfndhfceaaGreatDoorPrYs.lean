/-
  Layer 5 (period): the contract of the sanity check that every statement of the layer ends with: it is true. Condition: the table of month lengths reads as the program's text lays it.
-/
import Derived.Test.YtmgglcfndhfceaaGreatDoorPrYf
namespace Go.Proofs.YtmgglcfndhfceaaGreatDoor.Per
open Go Go.RowKit Go.Lib Go.Sort Go.Shelf Go.Proofs Go.Proofs.YtmgglcfndhfceaaGreatDoor Go.Proofs.YtmgglcfndhfceaaGreatDoor.Cal Go.Proofs.YtmgglcfndhfceaaGreatDoor.Mg
set_option linter.unusedVariables false

theorem s1_sp : spP 2 4 1 := ⟨by decide, by decide, by rw [cnt_w 2 4 (by decide) (by decide)]; decide⟩
theorem s1_F : sF 2 4 1 = 4 := by decide
theorem s1_T : sT 2 4 1 = 17 := by decide
theorem s2_sp : spP 0 0 673 := ⟨by decide, by decide, by rw [cnt_0]; decide⟩
theorem s2_F : sF 0 0 673 = 20485 := by decide
theorem s2_T : sT 0 0 673 = 20512 := by decide
theorem s2_f : fst 673 = 20485 := by decide
theorem s2_l : len 673 = 28 := by decide
theorem s3_sp : spP 0 0 675 := ⟨by decide, by decide, by rw [cnt_0]; decide⟩
theorem s3_F : sF 0 0 675 = 20544 := by decide
theorem s3_T : sT 0 0 675 = 20573 := by decide
theorem s4_n : nO 2 4 17 = 1 := by rw [nO_w 2 4 17 (by decide) (by decide)]; decide
theorem s_d2 : dvP (fun _ => 20499) 20485 20512 1 := fun i hi => by
  obtain rfl : i = 0 := by omega
  exact ⟨by decide, by decide⟩
theorem s_d3 : dvP (fun _ => 20554) 20544 20573 1 := fun i hi => by
  obtain rfl : i = 0 := by omega
  exact ⟨by decide, by decide⟩
theorem s_p2 : PartOk 2 [] 20485 20512 := ⟨.inr (.inr ⟨rfl, 673, by decide, by decide, by decide, by decide⟩), by decide, by decide, by decide⟩
theorem s_p3 : PartOk 0 [] 20544 20573 := ⟨.inl rfl, by decide, by decide, by decide⟩
def s2f (i : Nat) : Int := if i = 0 then 14 else 16
def s3f (i : Nat) : Int := if i = 0 then 10 else 20
def s3r (i : Nat) : Int := if i = 0 then 33 else 67
theorem s2_w (Z : List Int) (i : Nat) (hi : i ≤ 1) : wtF 2 Z (fun _ => 20499) 20485 20512 1 i = s2f i := by
  have e1 : bnd (fun _ => 20499) 20485 20512 1 1 = 20499 := rfl
  have e2 : bnd (fun _ => 20499) 20485 20512 1 2 = 20513 := rfl
  unfold wtF s2f
  rcases i with _ | _ | i
  · rw [bnd_0, e1, sumD_2a Z 673 20485 (by decide) (by decide) (by decide) _ (by decide)]; decide
  · rw [e1, e2, sumD_2b Z 673 20499 (by decide) (by decide) (by decide) _ (by decide) (by decide), s2_l]; decide
  · omega
theorem s3_w (Z : List Int) (i : Nat) (hi : i ≤ 1) : wtF 0 Z (fun _ => 20554) 20544 20573 1 i = s3f i := by
  have e1 : bnd (fun _ => 20554) 20544 20573 1 1 = 20554 := rfl
  have e2 : bnd (fun _ => 20554) 20544 20573 1 2 = 20574 := rfl
  unfold wtF s3f
  rw [sumD_0]
  rcases i with _ | _ | i
  · rw [bnd_0, e1]; decide
  · rw [e1, e2]; decide
  · omega
theorem s3_ord [Inhabited (Fin 2)] : ordAt 100 30 s3f 2 0 = 1 := by
  have h0 := ordAt_lt (n := 2) 100 30 s3f 0
  have h1 := ordAt_lt (n := 2) 100 30 s3f 1
  have hs := ord_srt (n := 2) 100 30 s3f 0 1 (Nat.zero_le _) (by omega) (by omega)
  have e0 : (fn (ordF 100 30 s3f 2) 0).val = ordAt 100 30 s3f 2 0 := rfl
  have e1 : (fn (ordF 100 30 s3f 2) 1).val = ordAt 100 30 s3f 2 1 := rfl
  unfold preF at hs
  rw [e0, e1] at hs
  rcases (by omega : ordAt 100 30 s3f 2 0 = 0 ∨ ordAt 100 30 s3f 2 0 = 1) with a | a
  · rcases (by omega : ordAt 100 30 s3f 2 1 = 0 ∨ ordAt 100 30 s3f 2 1 = 1) with b | b
    · rw [a, b] at hs; exact absurd hs (by decide)
    · rw [a, b] at hs; exact absurd hs (by decide)
  · exact a
theorem s3_miss : missK 100 30 s3f 2 = 1 := by decide +kernel
theorem s3_allo [Inhabited (Fin 2)] (i : Nat) (hi : i < 2) : alloF 100 30 s3f 2 i = s3r i := by
  unfold alloF
  rw [if_neg (by omega), s3_miss]
  unfold partF
  simp only [timesF]
  rw [s3_ord]
  rcases i with _ | _ | i
  · decide
  · decide
  · omega
theorem s_none (w : World) (B : Nat) : HolRow w B none 0 [] := ⟨rfl, fun h => by omega⟩
theorem s_cut (w : World) (b : Nat) (v : Int) (hb : b < w.heap.size) (hc : w.cell? ⟨b, 0, none⟩ = some (.int .i64 v)) : CutRow w w.heap.size (some ⟨b, 0, none⟩) 1 (fun _ => v) := fun _ => ⟨_, rfl, hb, fun i hi => by
  obtain rfl : i = 0 := by omega
  exact hc⟩
theorem s2_call (b : Nat) (w : World) (hb : b < w.heap.size) (hc : w.cell? ⟨b, 0, none⟩ = some (.int .i64 20499)) (hl : LgIs w) :
    Calls Tryz.prog 22 #[.agg #[.int .i64 0, .int .i64 0], .int .i64 673, .slice (some ⟨b, 0, none⟩) 1 1, .int .i64 2, .slice none 0 0] w (WtsR 1 s2f w) := by
  have h := pwts_ok 0 0 673 2 (some ⟨b, 0, none⟩) 1 1 (fun _ => 20499) none 0 0 [] s2_sp (by decide) (by decide) (.inr ⟨by decide, by decide⟩) (by decide) (by rw [s2_F, s2_T]; exact s_d2) (by decide) rfl (by rw [s2_F, s2_T]; exact s_p2) w (s_cut w b 20499 hb hc) (s_none w _) hl
  rw [s2_F, s2_T] at h
  exact h.mono fun e w' r => r.congr fun i hi => s2_w _ i hi
theorem s3_call (b : Nat) (w : World) (hb : b < w.heap.size) (hc : w.cell? ⟨b, 0, none⟩ = some (.int .i64 20554)) (hl : LgIs w) :
    Calls Tryz.prog 26 #[.int .i64 100, .agg #[.int .i64 0, .int .i64 0], .int .i64 675, .slice (some ⟨b, 0, none⟩) 1 1, .int .i64 0, .slice none 0 0] w (DivR 2 s3r w) := by
  have : Inhabited (Fin 2) := ⟨0⟩
  have hB := (Below.refl w.heap.size w).alloc (Nat.le_refl _) (.cells #[.int .i64 0, .int .i64 0] 27)
  have h := pwts_ok 0 0 675 0 (some ⟨b, 0, none⟩) 1 1 (fun _ => 20554) none 0 0 [] s3_sp (by decide) (by decide) (.inl (by decide)) (by decide) (by rw [s3_F, s3_T]; exact s_d3) (by decide) rfl (by rw [s3_F, s3_T]; exact s_p3) _ (s_cut _ b 20554 (Nat.lt_of_lt_of_le hb hB.size) ((hB.cell hb).trans hc)) (s_none _ _) (hl.below hB)
  rw [s3_F, s3_T] at h
  have d := pdd_pos 100 30 0 0 675 0 (some ⟨b, 0, none⟩) 1 1 none 0 0 s3f (by decide) (by decide) (by decide) (fun i _ => by unfold s3f; split <;> decide) (fun i _ => by unfold s3f; split <;> decide) (by decide) (by decide) w (h.mono fun e w' r => r.congr fun i hi => s3_w _ i hi)
  exact d.mono fun e w' ⟨p, h1, h2, h3, h4, h5⟩ => ⟨p, h1, h2, h3, h4.congr fun i hi => s3_allo i hi, h5⟩

set_option maxRecDepth 100000 in
set_option maxHeartbeats 4000000 in
theorem psane_any (w : World) (hl : LgIs w) :
    Calls Tryz.prog 13 #[] w (RetV (.bool true) w) := by
  have C1 := Lib.hid (fun w hl => (by have := pspan_yes 2 4 1 s1_sp w hl; rwa [s1_F, s1_T] at this : Calls Tryz.prog 28 #[.agg #[.int .i64 2, .int .i64 4], .int .i64 1] w (RetS 4 17 0 w)))
  have C4 := Lib.hid (fun w hl => (by have := pof_yes 2 4 17 (by decide) (by decide) (by decide) w hl; rwa [s4_n] at this : Calls Tryz.prog 29 #[.agg #[.int .i64 2, .int .i64 4], .int .i64 17] w (RetT 1 0 w)))
  have C5 := Lib.hid (fun w hl => (by have := pcount_yes 0 0 (by decide) w hl; rwa [cnt_0] at this : Calls Tryz.prog 30 #[.agg #[.int .i64 0, .int .i64 0]] w (RetI 2760 w)))
  go_enter Tryz.func13, Tryz.ntmps13
  go_wp2_with fail
  have hB0 := (Below.refl w.heap.size w).alloc (Nat.le_refl _) (.cells #[.int .i64 2, .int .i64 4] 27)
  have K0 := Box2.new w 27 2 4
  refine (C1.out _ (hl.below hB0)).mono ?_
  rintro e w1 ⟨rfl, hw1⟩
  have hB1 := hB0.trans (hw1.mono hB0.size)
  have K1 := K0.step hw1
  have D1 := Box2.new w1 34 4 17
  have hBd := hB1.alloc hB1.size (.cells #[.int .i64 4, .int .i64 17] 34)
  have K1d := K1.alloc (.cells #[.int .i64 4, .int .i64 17] 34)
  clear hw1 K0 hB0 K1
  go_wp2_with fail
  have hBs := hBd.alloc hBd.size (.cells #[.int .i64 20499] 3)
  refine (s2_call _ _ (by simp) (by go_simp) (hl.below hBs)).mono ?_
  rintro e w2 ⟨p2, c2, rfl, q2, r2, cells2, hw2⟩
  have hB2 := hBs.trans (hw2.mono hBs.size)
  have K2 := (K1d.alloc (.cells #[.int .i64 20499] 3)).step hw2
  have D2 := (D1.alloc (.cells #[.int .i64 20499] 3)).step hw2
  have x0 := cells2 0 (by omega)
  have x1 := cells2 1 (by omega)
  rw [show s2f 0 = 14 from rfl] at x0
  rw [show s2f 1 = 16 from rfl] at x1
  clear cells2 hw2 hBs K1d D1 hBd hB1
  go_wp2_with fail
  have hBt := hB2.alloc hB2.size (.cells #[.int .i64 20554] 3)
  refine (s3_call _ _ (by simp) (by go_simp) (hl.below hBt)).mono ?_
  rintro e w3 ⟨p3, rfl, q3, r3, hR, hw3⟩
  have hB3 := hBt.trans (hw3.mono hBt.size)
  have K3 := (K2.alloc (.cells #[.int .i64 20554] 3)).step hw3
  have D3 := (D2.alloc (.cells #[.int .i64 20554] 3)).step hw3
  have hA : Below w2.heap.size w2 w3 := ((Below.refl w2.heap.size w2).alloc (Nat.le_refl _) (.cells #[.int .i64 20554] 3)).trans (hw3.mono (by simp))
  have x0' := (hA.cell (p := ⟨p2, 0, none⟩) r2).trans x0
  have x1' := (hA.cell (p := ⟨p2, 1, none⟩) r2).trans x1
  have r2' : p2 < w3.heap.size := Nat.lt_of_lt_of_le r2 hA.size
  have y0 := hR.cell 0 (by omega)
  have y1 := hR.cell 1 (by omega)
  rw [show s3r 0 = 33 from rfl] at y0
  rw [show s3r 1 = 67 from rfl] at y1
  have k0 := K3.c0
  have k1 := K3.c1
  clear hR hw3 hBt hB2 K2 D2 x0 x1 r2 hA q2 q3
  go_wp2_with fail
  refine (C4.out _ (hl.below hB3)).mono ?_
  rintro e w4 ⟨rfl, hw4⟩
  have hB4 := hB3.trans (hw4.mono hB3.size)
  have D4 := D3.step hw4
  have d0 := D4.c0
  have d1 := D4.c1
  have a0 := (hw4.cell (p := ⟨p2, 0, none⟩) r2').trans x0'
  have a1 := (hw4.cell (p := ⟨p2, 1, none⟩) r2').trans x1'
  have b0 := (hw4.cell (p := ⟨p3, 0, none⟩) r3).trans y0
  have b1 := (hw4.cell (p := ⟨p3, 1, none⟩) r3).trans y1
  clear hw4 D3 K3 k0 k1 x0' x1' y0 y1 hB3
  go_wp2_with (go_at_call 30; refine (C5.out _ (hl.below hB4)).mono ?_; rintro e w5 ⟨rfl, hw5⟩)
  go_ret
  exact ⟨rfl, hB4.trans (hw5.mono hB4.size)⟩
end Go.Proofs.YtmgglcfndhfceaaGreatDoor.Per
