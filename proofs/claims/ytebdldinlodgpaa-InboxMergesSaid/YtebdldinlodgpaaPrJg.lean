/-
  Layer 7 (records): contracts of frame and Encode of the reference: the frame of a valid event, or the error. No condition.
-/
import Derived.Test.YtebdldinlodgpaaPrJf
namespace Go.Proofs.Ytebdldinlodgpaa.Rc
open Go Go.RowKit Go.Lib Go.Sort Go.Shelf Go.Proofs Go.Proofs.Ytebdldinlodgpaa Go.Proofs.Ytebdldinlodgpaa.Tp
set_option linter.unusedVariables false

theorem OwnB.lit (w : World) (x y : Nat) : OwnB w (.slice (some ⟨w.heap.size, 0, none⟩) 2 2) [x, y] (w.alloc (.cells #[.int .u8 (x : Int), .int .u8 (y : Int)] 5)) :=
  ⟨⟨rfl, .inr ⟨w.heap.size, 2, _, rfl, Nat.le_refl _, heap_alloc_new w _, Nat.le_refl _, by unfold maxLen; omega, rfl, rfl⟩⟩, (Below.refl _ _).alloc (Nat.le_refl _) _⟩
theorem put4_any (w0 : World) (v : Value) (bs : List Nat) (n : Nat) (hl : bs.length ≤ 1000000) (w : World) (h : OwnB w0 v bs w) :
    Calls Try.prog 72 #[v, .int .i64 n, .int .i64 4] w (ApR w0 v (bs ++ bys n 4) w) := put_any w0 v bs n 4 (by decide) hl w h
theorem put2_any (w0 : World) (v : Value) (bs : List Nat) (n : Nat) (hl : bs.length ≤ 1000000) (w : World) (h : OwnB w0 v bs w) :
    Calls Try.prog 72 #[v, .int .i64 n, .int .i64 2] w (ApR w0 v (bs ++ bys n 2) w) := put_any w0 v bs n 2 (by decide) hl w h
def FrR (e : Ev) (w : World) (r : Ending) (w' : World) : Prop := ∃ a cap, r = .returned (.slice a 24 cap) ∧ OwnB w (.slice a 24 cap) (frame e) w'

set_option maxRecDepth 100000 in
set_option maxHeartbeats 4000000 in
theorem frame_any (e : Ev) (he : okE e = true) (w : World) :
    Calls Try.prog 49 #[vE e] w (FrR e w) := by
  have HF := Lib.hid (show frame e = frame22 e ++ bys (crc (frame22 e)) 2 from rfl)
  have HL := Lib.hid (frame22_by he)
  have X0 := Lib.hid (EvAt.new w e 26)
  obtain ⟨kt, ks, em, ti, ki, tt, ts, rfl, hki, hfr⟩ := ev_nat he
  have HR := Lib.hid hfr
  clear he hfr
  show Calls _ _ #[.agg #[.int .i64 kt, .int .i64 ks, .int .i64 em, .int .i64 ti, .int .i64 ki, .int .i64 tt, .int .i64 ts]] w _
  have G0 := Lib.hid ((Gr.refl w).alloc (.cells #[.int .i64 kt, .int .i64 ks, .int .i64 em, .int .i64 ti, .int .i64 ki, .int .i64 tt, .int .i64 ts] 26))
  have wk : IntKind.u8.wrap (ki : Int) = (ki : Int) := by rw [IntKind.wrap_u8]; omega
  have O1 : Hid (OwnB (w.alloc (.cells #[.int .i64 kt, .int .i64 ks, .int .i64 em, .int .i64 ti, .int .i64 ki, .int .i64 tt, .int .i64 ts] 26)) (.slice (some ⟨w.heap.size + 1, 0, none⟩) 2 2) [193, ki] ((w.alloc (.cells #[.int .i64 kt, .int .i64 ks, .int .i64 em, .int .i64 ti, .int .i64 ki, .int .i64 tt, .int .i64 ts] 26)).alloc (.cells #[.int .u8 193, .int .u8 (ki : Int)] 5))) := Lib.hid (by
    have := OwnB.lit (w.alloc (.cells #[.int .i64 kt, .int .i64 ks, .int .i64 em, .int .i64 ti, .int .i64 ki, .int .i64 tt, .int .i64 ts] 26)) 193 ki
    simpa using this)
  go_enter Try.func49, Try.ntmps49
  go_upto_region 2 with fail
  have X1 : Hid (EvAt (w.alloc (.cells #[.int .i64 kt, .int .i64 ks, .int .i64 em, .int .i64 ti, .int .i64 ki, .int .i64 tt, .int .i64 ts] 26)) w.heap.size ⟨kt, ks, em, ti, ki, tt, ts⟩) := X0
  clear X0
  generalize (w.alloc (.cells #[.int .i64 kt, .int .i64 ks, .int .i64 em, .int .i64 ti, .int .i64 ki, .int .i64 tt, .int .i64 ts] 26)) = wb at *
  generalize (wb.alloc (.cells #[.int .u8 193, .int .u8 (ki : Int)] 5)) = w4 at *
  generalize Value.slice (some ⟨w.heap.size + 1, 0, none⟩) 2 2 = v4 at *
  have O4 := O1
  clear O1 wk
  go_upto_region 2 with fail
  have C1 : Hid (Calls Try.prog 72 #[v4, .int .i64 kt, .int .i64 2] w4.drew (ApR wb v4 ([193, ki] ++ bys kt 2) w4.drew)) := Lib.hid (put2_any wb v4 [193, ki] kt (by simp) _ (OwnL.drew O4.out))
  have C2 : Hid (∀ v' w', OwnB wb v' ([193, ki] ++ bys kt 2) w' → Calls Try.prog 72 #[v', .int .i64 ks, .int .i64 4] w' (ApR wb v' (([193, ki] ++ bys kt 2) ++ bys ks 4) w')) := Lib.hid (fun v' w' h' => put4_any wb v' ([193, ki] ++ bys kt 2) ks (by simp [bys_len]) w' h')
  have CE : Hid (∀ v' l' w', OwnB wb v' l' w' → w'.cell? ⟨w.heap.size, 0, none⟩ = some (.int .i64 kt) ∧ w'.cell? ⟨w.heap.size, 1, none⟩ = some (.int .i64 ks)) := Lib.hid fun v' l' w' h => by
    have X := X1.out.keep (h.below.block _ X1.out.lt)
    exact ⟨X.c0, X.c1⟩
  obtain ⟨z0, z1⟩ := CE.out _ _ _ (OwnL.drew O4.out)
  go_region_held3 (fun w' => w'.cell? ⟨w.heap.size, 0, none⟩ = some (.int .i64 kt) ∧ w'.cell? ⟨w.heap.size, 1, none⟩ = some (.int .i64 ks))
    (first | (with_reducible exact ⟨z0, z1⟩) | (with_reducible exact ⟨y0, y1⟩) | (with_reducible exact ⟨x0, x1⟩))
    (first
      | (go_at_call 72; (with_reducible refine (C1.out).mono ?_); rintro e w5 ⟨v5, rfl, h5, k5⟩; have O5 : Hid (OwnB wb v5 ([193, ki] ++ bys kt 2) w5) := Lib.hid h5; have y0 := (CE.out _ _ _ O5.out).1; have y1 := (CE.out _ _ _ O5.out).2; clear h5 k5)
      | (go_at_call 72; (with_reducible refine (C2.out _ _ O5.out).mono ?_); rintro e w6 ⟨v6, rfl, h6, k6⟩; have O6 : Hid (OwnB wb v6 (([193, ki] ++ bys kt 2) ++ bys ks 4) w6) := Lib.hid h6; have x0 := (CE.out _ _ _ O6.out).1; have x1 := (CE.out _ _ _ O6.out).2; clear h6 k6))
  clear C1 C2 CE z0 z1 y0 y1 x0 x1 O4 O5
  go_upto_region 3 with fail
  have C1 : Hid (Calls Try.prog 72 #[v6, .int .i64 em, .int .i64 4] w6.drew (ApR wb v6 ((([193, ki] ++ bys kt 2) ++ bys ks 4) ++ bys em 4) w6.drew)) := Lib.hid (put4_any wb v6 (([193, ki] ++ bys kt 2) ++ bys ks 4) em (by simp [bys_len]) _ (OwnL.drew O6.out))
  have C2 : Hid (∀ v' w', OwnB wb v' ((([193, ki] ++ bys kt 2) ++ bys ks 4) ++ bys em 4) w' → Calls Try.prog 72 #[v', .int .i64 ti, .int .i64 4] w' (ApR wb v' (((([193, ki] ++ bys kt 2) ++ bys ks 4) ++ bys em 4) ++ bys ti 4) w')) := Lib.hid (fun v' w' h' => put4_any wb v' ((([193, ki] ++ bys kt 2) ++ bys ks 4) ++ bys em 4) ti (by simp [bys_len]) w' h')
  have CE : Hid (∀ v' l' w', OwnB wb v' l' w' → w'.cell? ⟨w.heap.size, 2, none⟩ = some (.int .i64 em) ∧ w'.cell? ⟨w.heap.size, 3, none⟩ = some (.int .i64 ti)) := Lib.hid fun v' l' w' h => by
    have X := X1.out.keep (h.below.block _ X1.out.lt)
    exact ⟨X.c2, X.c3⟩
  obtain ⟨z0, z1⟩ := CE.out _ _ _ (OwnL.drew O6.out)
  go_region_held3 (fun w' => w'.cell? ⟨w.heap.size, 2, none⟩ = some (.int .i64 em) ∧ w'.cell? ⟨w.heap.size, 3, none⟩ = some (.int .i64 ti))
    (first | (with_reducible exact ⟨z0, z1⟩) | (with_reducible exact ⟨y0, y1⟩) | (with_reducible exact ⟨x0, x1⟩))
    (first
      | (go_at_call 72; (with_reducible refine (C1.out).mono ?_); rintro e w7 ⟨v7, rfl, h7, k7⟩; have O7 : Hid (OwnB wb v7 ((([193, ki] ++ bys kt 2) ++ bys ks 4) ++ bys em 4) w7) := Lib.hid h7; have y0 := (CE.out _ _ _ O7.out).1; have y1 := (CE.out _ _ _ O7.out).2; clear h7 k7)
      | (go_at_call 72; (with_reducible refine (C2.out _ _ O7.out).mono ?_); rintro e w8 ⟨v8, rfl, h8, k8⟩; have O8 : Hid (OwnB wb v8 (((([193, ki] ++ bys kt 2) ++ bys ks 4) ++ bys em 4) ++ bys ti 4) w8) := Lib.hid h8; have x0 := (CE.out _ _ _ O8.out).1; have x1 := (CE.out _ _ _ O8.out).2; clear h8 k8))
  clear C1 C2 CE z0 z1 y0 y1 x0 x1 O6 O7
  go_upto_region 4 with fail
  have C1 : Hid (Calls Try.prog 72 #[v8, .int .i64 tt, .int .i64 2] w8.drew (ApR wb v8 ((((([193, ki] ++ bys kt 2) ++ bys ks 4) ++ bys em 4) ++ bys ti 4) ++ bys tt 2) w8.drew)) := Lib.hid (put2_any wb v8 (((([193, ki] ++ bys kt 2) ++ bys ks 4) ++ bys em 4) ++ bys ti 4) tt (by simp [bys_len]) _ (OwnL.drew O8.out))
  have C2 : Hid (∀ v' w', OwnB wb v' ((((([193, ki] ++ bys kt 2) ++ bys ks 4) ++ bys em 4) ++ bys ti 4) ++ bys tt 2) w' → Calls Try.prog 72 #[v', .int .i64 ts, .int .i64 4] w' (ApR wb v' (((((([193, ki] ++ bys kt 2) ++ bys ks 4) ++ bys em 4) ++ bys ti 4) ++ bys tt 2) ++ bys ts 4) w')) := Lib.hid (fun v' w' h' => put4_any wb v' ((((([193, ki] ++ bys kt 2) ++ bys ks 4) ++ bys em 4) ++ bys ti 4) ++ bys tt 2) ts (by simp [bys_len]) w' h')
  have CE : Hid (∀ v' l' w', OwnB wb v' l' w' → w'.cell? ⟨w.heap.size, 5, none⟩ = some (.int .i64 tt) ∧ w'.cell? ⟨w.heap.size, 6, none⟩ = some (.int .i64 ts)) := Lib.hid fun v' l' w' h => by
    have X := X1.out.keep (h.below.block _ X1.out.lt)
    exact ⟨X.c5, X.c6⟩
  obtain ⟨z0, z1⟩ := CE.out _ _ _ (OwnL.drew O8.out)
  go_region_held3 (fun w' => w'.cell? ⟨w.heap.size, 5, none⟩ = some (.int .i64 tt) ∧ w'.cell? ⟨w.heap.size, 6, none⟩ = some (.int .i64 ts))
    (first | (with_reducible exact ⟨z0, z1⟩) | (with_reducible exact ⟨y0, y1⟩) | (with_reducible exact ⟨x0, x1⟩))
    (first
      | (go_at_call 72; (with_reducible refine (C1.out).mono ?_); rintro e w9 ⟨v9, rfl, h9, k9⟩; have O9 : Hid (OwnB wb v9 ((((([193, ki] ++ bys kt 2) ++ bys ks 4) ++ bys em 4) ++ bys ti 4) ++ bys tt 2) w9) := Lib.hid h9; have y0 := (CE.out _ _ _ O9.out).1; have y1 := (CE.out _ _ _ O9.out).2; clear h9 k9)
      | (go_at_call 72; (with_reducible refine (C2.out _ _ O9.out).mono ?_); rintro e w10 ⟨v10, rfl, h10, k10⟩; have O10 : Hid (OwnB wb v10 (((((([193, ki] ++ bys kt 2) ++ bys ks 4) ++ bys em 4) ++ bys ti 4) ++ bys tt 2) ++ bys ts 4) w10) := Lib.hid h10; have x0 := (CE.out _ _ _ O10.out).1; have x1 := (CE.out _ _ _ O10.out).2; clear h10 k10))
  clear C1 C2 CE z0 z1 y0 y1 x0 x1 O8 O9
  have EQ : (((((([193, ki] ++ bys kt 2) ++ bys ks 4) ++ bys em 4) ++ bys ti 4) ++ bys tt 2) ++ bys ts 4) = frame22 ⟨kt, ks, em, ti, ki, tt, ts⟩ := HR.out.symm
  rw [EQ] at O10
  clear EQ HR X1
  obtain ⟨a, cap, hv⟩ := OwnB.done O10.out (frame22_len _) (by decide)
  subst hv
  generalize frame22 ⟨kt, ks, em, ti, ki, tt, ts⟩ = F at *
  have BR := Lib.hid (OwnB.brow O10.out HL.out)
  have FL := Lib.hid BR.out.2
  have crcb := crc_lt HL.out
  go_wp2_with fail
  refine (rsum_any a 22 cap F (by decide) _ BR.out.1).mono ?_
  rintro r w11 ⟨rfl, rfl⟩
  go_wp2_with fail
  refine (put2_any wb _ F (crc F) (by rw [← FL.out]; decide) _ O10.out).mono ?_
  rintro r w12 ⟨v12, rfl, h12, _⟩
  have OO := Lib.hid h12
  clear h12
  obtain ⟨a2, cap2, hv⟩ := OwnB.done (n := 24) OO.out (by rw [List.length_append, bys_len, ← FL.out]) (by decide)
  subst hv
  go_wp2_with fail
  go_ret
  exact ⟨a2, cap2, rfl, by rw [HF.out]; exact OwnL.base OO.out G0.out.below⟩

set_option maxRecDepth 100000 in
set_option maxHeartbeats 2000000 in
theorem renc_bad (e : Ev) (he : okE e = false) (w : World) :
    Calls Try.prog 18 #[vE e] w (EncE w) := by
  have V := Lib.hid (fun w => rvalid_any e w)
  rw [he] at V
  obtain ⟨kt, ks, em, ti, ki, tt, ts⟩ := e
  show Calls _ _ #[.agg #[.int .i64 kt, .int .i64 ks, .int .i64 em, .int .i64 ti, .int .i64 ki, .int .i64 tt, .int .i64 ts]] w _
  have G0 := Lib.hid ((Gr.refl w).alloc (.cells #[.int .i64 kt, .int .i64 ks, .int .i64 em, .int .i64 ti, .int .i64 ki, .int .i64 tt, .int .i64 ts] 26))
  unfold vE at V
  simp only at V
  clear he
  go_enter Try.func18, Try.ntmps18
  go_wp2_with fail
  refine (V.out _).mono ?_
  rintro r w2 ⟨rfl, hw2⟩
  have G2 := Lib.hid (G0.out.trans hw2)
  clear hw2 V
  go_wp2_with fail
  go_ret2
  exact ⟨rfl, G2.out.below⟩

set_option maxRecDepth 100000 in
set_option maxHeartbeats 2000000 in
theorem renc_ok (e : Ev) (he : okE e = true) (w : World) :
    Calls Try.prog 18 #[vE e] w (EncR e w) := by
  have V := Lib.hid (fun w => rvalid_any e w)
  have C := Lib.hid (fun w => frame_any e he w)
  rw [he] at V
  have X0 := Lib.hid (EvAt.new w e 26)
  obtain ⟨kt, ks, em, ti, ki, tt, ts⟩ := e
  show Calls _ _ #[.agg #[.int .i64 kt, .int .i64 ks, .int .i64 em, .int .i64 ti, .int .i64 ki, .int .i64 tt, .int .i64 ts]] w _
  have G0 := Lib.hid ((Gr.refl w).alloc (.cells #[.int .i64 kt, .int .i64 ks, .int .i64 em, .int .i64 ti, .int .i64 ki, .int .i64 tt, .int .i64 ts] 26))
  unfold vE at V C
  simp only at V C
  clear he
  go_enter Try.func18, Try.ntmps18
  go_wp2_with fail
  refine (V.out _).mono ?_
  rintro r w2 ⟨rfl, hw2⟩
  have G2 := Lib.hid (G0.out.trans hw2)
  obtain ⟨c0, c1, c2, c3, c4, c5, c6⟩ := X0.out.keep (hw2.below.block _ (by simp))
  simp only at c0 c1 c2 c3 c4 c5 c6
  clear hw2 V X0 G0
  go_wp2_with fail
  refine (C.out _).mono ?_
  rintro r w3 ⟨a, cap, rfl, h3⟩
  have O3 := Lib.hid h3
  clear h3 C c0 c1 c2 c3 c4 c5 c6
  go_wp2_with fail
  go_ret2
  exact ⟨a, cap, rfl, OwnL.base O3.out G2.out.below⟩
end Go.Proofs.Ytebdldinlodgpaa.Rc
