/-
  Layer 7 (records): contracts of appendKey and Encode (program), frame and Encode (reference): the frame of a valid event, or the error. Conditions: the list is the caller's own.
-/
import Derived.Test.YtebdldinlodgpaaPrJe
import Derived.Test.YtebdldinlodgpaaPrJd
import Derived.Test.YtebdldinlodgpaaPrJb
import Derived.Deep.Cut
namespace Go.Proofs.Ytebdldinlodgpaa.Rc
open Go Go.RowKit Go.Lib Go.Sort Go.Shelf Go.Proofs Go.Proofs.Ytebdldinlodgpaa Go.Proofs.Ytebdldinlodgpaa.Tp
set_option linter.unusedVariables false

set_option maxRecDepth 100000 in
set_option maxHeartbeats 2000000 in
theorem apk_any (w0 : World) (v : Value) (bs : List Nat) (t s : Nat) (hl : bs.length ≤ 100000) (w : World) (h : OwnB w0 v bs w) :
    Calls Try.prog 47 #[v, .agg #[.int .i64 t, .int .i64 s]] w (ApR w0 v (bs ++ bys t 2 ++ bys s 4) w) := by
  have C1 : Hid (Calls Try.prog 48 #[v, .int .i64 t, .int .i64 2] (w.alloc (.cells #[.int .i64 t, .int .i64 s] 24)).drew (ApR w0 v (bs ++ bys t 2) (w.alloc (.cells #[.int .i64 t, .int .i64 s] 24)).drew)) := Lib.hid (apn_any w0 v bs t 2 (by decide) (by omega) _ (OwnL.drew (OwnL.alloc h (.cells #[.int .i64 t, .int .i64 s] 24))))
  have C2 : Hid (∀ v' w', OwnB w0 v' (bs ++ bys t 2) w' → Calls Try.prog 48 #[v', .int .i64 s, .int .i64 4] w' (ApR w0 v' (bs ++ bys t 2 ++ bys s 4) w')) := Lib.hid (fun v' w' h' => apn_any w0 v' (bs ++ bys t 2) s 4 (by decide) (by rw [List.length_append, bys_len]; omega) w' h')
  have K0 := Lib.hid (Kp.drew (Kp.alloc (Kp.refl v w) (.cells #[.int .i64 t, .int .i64 s] 24)))
  have hne : v.ownBlock ≠ some w.heap.size := fun e => by have := (OwnL.row h).lt _ e; omega
  have NE := Lib.hid hne
  have z0 : (w.alloc (.cells #[.int .i64 t, .int .i64 s] 24)).drew.cell? ⟨w.heap.size, 0, none⟩ = some (.int .i64 t) := by go_simp
  have z1 : (w.alloc (.cells #[.int .i64 t, .int .i64 s] 24)).drew.cell? ⟨w.heap.size, 1, none⟩ = some (.int .i64 s) := by go_simp
  clear h hne
  go_enter Try.func47, Try.ntmps47
  go_wp2_with fail
  go_region_held3 (fun w' => w'.cell? ⟨w.heap.size, 0, none⟩ = some (.int .i64 t) ∧ w'.cell? ⟨w.heap.size, 1, none⟩ = some (.int .i64 s))
    (first | (with_reducible exact ⟨z0, z1⟩) | (with_reducible exact ⟨y0, y1⟩) | (with_reducible exact ⟨x0, x1⟩))
    (first
      | (go_at_call 48; (with_reducible refine (C1.out).mono ?_); rintro e w2 ⟨v2, rfl, h2, k2⟩; have O2 : Hid (OwnB w0 v2 (bs ++ bys t 2) w2) := Lib.hid h2; have K2 := Lib.hid k2; have y0 : w2.cell? ⟨w.heap.size, 0, none⟩ = some (.int .i64 t) := K2.out.cell z0 NE.out; have y1 : w2.cell? ⟨w.heap.size, 1, none⟩ = some (.int .i64 s) := K2.out.cell z1 NE.out; clear h2 k2)
      | (go_at_call 48; (with_reducible refine (C2.out _ _ O2.out).mono ?_); rintro e w3 ⟨v3, rfl, h3, k3⟩; have O3 := Lib.hid h3; have K3 := Lib.hid (K2.out.trans k3); have x0 : w3.cell? ⟨w.heap.size, 0, none⟩ = some (.int .i64 t) := K3.out.cell z0 NE.out; have x1 : w3.cell? ⟨w.heap.size, 1, none⟩ = some (.int .i64 s) := K3.out.cell z1 NE.out; clear h3 k3))
  go_wp2
  go_ret
  exact ⟨v3, rfl, O3.out, K0.out.trans K3.out⟩

/-- The seven cells from the beginning of block p on hold an event. -/
structure EvAt (w : World) (p : Nat) (e : Ev) : Prop where
  c0 : w.cell? ⟨p, 0, none⟩ = some (.int .i64 e.kt)
  c1 : w.cell? ⟨p, 1, none⟩ = some (.int .i64 e.ks)
  c2 : w.cell? ⟨p, 2, none⟩ = some (.int .i64 e.em)
  c3 : w.cell? ⟨p, 3, none⟩ = some (.int .i64 e.ti)
  c4 : w.cell? ⟨p, 4, none⟩ = some (.int .i64 e.ki)
  c5 : w.cell? ⟨p, 5, none⟩ = some (.int .i64 e.tt)
  c6 : w.cell? ⟨p, 6, none⟩ = some (.int .i64 e.ts)
theorem EvAt.keep {w w' : World} {p : Nat} {e : Ev} (h : EvAt w p e) (hb : w'.heap[p]? = w.heap[p]?) : EvAt w' p e :=
  ⟨(World.cell?_of_block (a := ⟨p, 0, none⟩) hb).trans h.c0, (World.cell?_of_block (a := ⟨p, 1, none⟩) hb).trans h.c1, (World.cell?_of_block (a := ⟨p, 2, none⟩) hb).trans h.c2, (World.cell?_of_block (a := ⟨p, 3, none⟩) hb).trans h.c3, (World.cell?_of_block (a := ⟨p, 4, none⟩) hb).trans h.c4, (World.cell?_of_block (a := ⟨p, 5, none⟩) hb).trans h.c5, (World.cell?_of_block (a := ⟨p, 6, none⟩) hb).trans h.c6⟩
theorem EvAt.lt {w : World} {p : Nat} {e : Ev} (h : EvAt w p e) : p < w.heap.size := World.block_lt_of_cell? w _ h.c0
theorem EvAt.new (w : World) (e : Ev) (t : TypeId) : EvAt (w.alloc (.cells #[.int .i64 e.kt, .int .i64 e.ks, .int .i64 e.em, .int .i64 e.ti, .int .i64 e.ki, .int .i64 e.tt, .int .i64 e.ts] t)) w.heap.size e :=
  ⟨by go_simp, by go_simp, by go_simp, by go_simp, by go_simp, by go_simp, by go_simp⟩
/-- What Encode gives for a valid event. -/
def EncR (e : Ev) (w : World) (r : Ending) (w' : World) : Prop := ∃ a cap, r = .returned (.tuple #[.slice a 24 cap, .int .i64 0]) ∧ OwnB w (.slice a 24 cap) (frame e) w'
def EncE (w : World) (r : Ending) (w' : World) : Prop := r = .returned (.tuple #[.slice none 0 0, .int .i64 1]) ∧ Below w.heap.size w w'
theorem ev_nat {e : Ev} (h : okE e = true) : ∃ kt ks em ti ki tt ts : Nat, e = ⟨kt, ks, em, ti, ki, tt, ts⟩ ∧ ki < 256 ∧ frame22 e = [193, ki] ++ bys kt 2 ++ bys ks 4 ++ bys em 4 ++ bys ti 4 ++ bys tt 2 ++ bys ts 4 := by
  have hb := okE_bd h
  obtain ⟨kt, ks, em, ti, ki, tt, ts⟩ := e
  simp only at hb
  obtain ⟨kt, rfl⟩ := Int.eq_ofNat_of_zero_le hb.1
  obtain ⟨ks, rfl⟩ := Int.eq_ofNat_of_zero_le hb.2.2.1
  obtain ⟨em, rfl⟩ := Int.eq_ofNat_of_zero_le (show 0 ≤ em by omega)
  obtain ⟨ti, rfl⟩ := Int.eq_ofNat_of_zero_le (show 0 ≤ ti by omega)
  obtain ⟨ki, rfl⟩ := Int.eq_ofNat_of_zero_le (show 0 ≤ ki by omega)
  obtain ⟨tt, rfl⟩ := Int.eq_ofNat_of_zero_le (show 0 ≤ tt by omega)
  obtain ⟨ts, rfl⟩ := Int.eq_ofNat_of_zero_le (show 0 ≤ ts by omega)
  exact ⟨kt, ks, em, ti, ki, tt, ts, rfl, by omega, rfl⟩
theorem OwnB.done {w W : World} {v : Value} {l : List Nat} {n : Nat} (h : OwnB w v l W) (hl : l.length = n) (hn : 0 < n) : ∃ a cap, v = .slice a n cap := by
  subst hl
  rcases OwnL.form h with ⟨e, rfl⟩ | ⟨g, cap', e, h1, h2, h3⟩
  · simp at hn
  · exact ⟨_, _, e⟩

set_option maxRecDepth 100000 in
set_option maxHeartbeats 2000000 in
theorem enc_bad (e : Ev) (he : okE e = false) (w : World) :
    Calls Try.prog 17 #[vE e] w (EncE w) := by
  have V := Lib.hid (fun w => valid_any e w)
  rw [he] at V
  obtain ⟨kt, ks, em, ti, ki, tt, ts⟩ := e
  show Calls _ _ #[.agg #[.int .i64 kt, .int .i64 ks, .int .i64 em, .int .i64 ti, .int .i64 ki, .int .i64 tt, .int .i64 ts]] w _
  have G0 := Lib.hid ((Gr.refl w).alloc (.cells #[.int .i64 kt, .int .i64 ks, .int .i64 em, .int .i64 ti, .int .i64 ki, .int .i64 tt, .int .i64 ts] 26))
  unfold vE at V
  simp only at V
  clear he
  go_enter Try.func17, Try.ntmps17
  go_wp2_with fail
  refine (V.out _).mono ?_
  rintro r w2 ⟨rfl, hw2⟩
  have G2 := Lib.hid (G0.out.trans hw2)
  clear hw2 V
  go_wp2_with fail
  go_ret2
  exact ⟨rfl, G2.out.below⟩

theorem make24 (w : World) : ∃ cs : Array Value, (Instr.makeSlice 27 (.int .i64 0) (.int .i64 24)).run Try.prog w = .ok (.slice (some ⟨w.heap.size, 0, none⟩) 0 24) (w.alloc (.cells cs 5)) ∧ OwnB w (.slice (some ⟨w.heap.size, 0, none⟩) 0 24) [] (w.alloc (.cells cs 5)) := by
  obtain ⟨i0, hi, hz0, hz1, hz2⟩ := info1
  have h := run_make (P := Try.prog) w 27 5 i0 (.int .u8 0) Try.underlying27 hi hz0 .i64 .i64 0 24 (by omega) (by omega) (by rw [hz2]; omega) (by omega)
  rw [hz1] at h
  exact ⟨_, h, World.ownsRow_made w _ 24 (Nat.le_refl _) (by unfold maxLen; omega) (by rw [size_madeCells]; rfl), (Below.refl _ _).alloc (Nat.le_refl _) _⟩
theorem apn4_any (w0 : World) (v : Value) (bs : List Nat) (n : Nat) (hl : bs.length ≤ 1000000) (w : World) (h : OwnB w0 v bs w) :
    Calls Try.prog 48 #[v, .int .i64 n, .int .i64 4] w (ApR w0 v (bs ++ bys n 4) w) := apn_any w0 v bs n 4 (by decide) hl w h
theorem apn2_any (w0 : World) (v : Value) (bs : List Nat) (n : Nat) (hl : bs.length ≤ 1000000) (w : World) (h : OwnB w0 v bs w) :
    Calls Try.prog 48 #[v, .int .i64 n, .int .i64 2] w (ApR w0 v (bs ++ bys n 2) w) := apn_any w0 v bs n 2 (by decide) hl w h
theorem two_new (w : World) (x y : Value) (t : TypeId) : ∀ j u, [x, y][j]? = some u → (w.alloc (.cells #[x, y] t)).cell? ((⟨w.heap.size, 0, none⟩ : Addr).add j) = some u := by
  intro j u hj
  rcases j with _ | _ | j
  · simp at hj; subst hj; go_simp
  · simp at hj; subst hj; go_simp
  · simp at hj

set_option maxRecDepth 100000 in
set_option maxHeartbeats 4000000 in
theorem enc_ok (e : Ev) (he : okE e = true) (w : World) :
    Calls Try.prog 17 #[vE e] w (EncR e w) := by
  have V := Lib.hid (fun w => valid_any e w)
  rw [he] at V
  have HF := Lib.hid (show frame e = frame22 e ++ bys (crc (frame22 e)) 2 from rfl)
  have HL := Lib.hid (frame22_by he)
  have X0 := Lib.hid (EvAt.new w e 26)
  obtain ⟨kt, ks, em, ti, ki, tt, ts, rfl, hki, hfr⟩ := ev_nat he
  have HR := Lib.hid hfr
  clear he hfr
  show Calls _ _ #[.agg #[.int .i64 kt, .int .i64 ks, .int .i64 em, .int .i64 ti, .int .i64 ki, .int .i64 tt, .int .i64 ts]] w _
  have G0 := Lib.hid ((Gr.refl w).alloc (.cells #[.int .i64 kt, .int .i64 ks, .int .i64 em, .int .i64 ti, .int .i64 ki, .int .i64 tt, .int .i64 ts] 26))
  unfold vE at V
  simp only at V
  go_enter Try.func17, Try.ntmps17
  go_wp2_with fail
  refine (V.out _).mono ?_
  rintro r w2 ⟨rfl, hw2⟩
  have G2 := Lib.hid (G0.out.trans hw2)
  have X2 : Hid (EvAt w2 w.heap.size ⟨kt, ks, em, ti, ki, tt, ts⟩) := Lib.hid (X0.out.keep (hw2.below.block _ (by simp)))
  have wk : IntKind.u8.wrap (ki : Int) = (ki : Int) := by rw [IntKind.wrap_u8]; omega
  obtain ⟨c0, c1, c2, c3, c4, c5, c6⟩ := X2.out
  clear hw2 V X0 G0
  simp only at c0 c1 c2 c3 c4 c5 c6
  obtain ⟨zb, hmk, ho3⟩ := make24 w2
  have HO := Lib.hid ho3
  clear ho3
  go_upto_region 4 with fail
  have X3 : Hid (EvAt (w2.alloc (.cells zb 5)) w.heap.size ⟨kt, ks, em, ti, ki, tt, ts⟩) := Lib.hid (X2.out.keep (HO.out.below.block _ X2.out.lt))
  clear hmk c0 c1 c2 c3 c4 c5 c6
  generalize w2.alloc (.cells zb 5) = w3 at *
  generalize Value.slice (some ⟨w2.heap.size, 0, none⟩) 0 24 = v3 at *
  obtain ⟨c0, c1, c2, c3, c4, c5, c6⟩ := X3.out
  simp only at c0 c1 c2 c3 c4 c5 c6
  have O3 := Lib.hid (OwnL.alloc HO.out (.cells #[.int .u8 193, .int .u8 (ki : Int)] 5))
  obtain ⟨i0, hi0, hz0, hz1, hz2⟩ := info1
  have HQ := Lib.hid (And.intro hi0 (And.intro hz0 (And.intro hz1 hz2)))
  clear hi0 hz0 hz1 hz2 HO X3
  go_wp2_with (at_builtin; refine wpList_append_own _ rfl _ _ 27 rfl w2.heap.size 5 i0 (.int .u8 0) 1 1 Try.underlying27 HQ.out.1 HQ.out.2.1 HQ.out.2.2.1 HQ.out.2.2.2 rfl (by decide) _ _ _ rfl O3.out.row ⟨w3.heap.size, 0, none⟩ 2 2 [.int .u8 193, .int .u8 (ki : Int)] rfl rfl (two_new _ _ _ _) ?m2 ?m3 ?m4 O3.out.below.size ?_)
  case m2 => intro x hx; simp at hx; rcases hx with rfl | rfl <;> rfl
  case m3 => decide
  case m4 => decide
  intro v4 w4 hown hgrow _
  have O4 : Hid (OwnB w2 v4 ([] ++ [193, ki]) w4) := Lib.hid (OwnL.grown (m := [193, ki]) O3.out hown hgrow)
  clear hown hgrow O3 HQ c0 c1 c2 c3 c4 c5 c6
  obtain ⟨c0, c1, c2, c3, c4, c5, c6⟩ := X2.out.keep (O4.out.below.block _ X2.out.lt)
  simp only at c0 c1 c2 c3 c4 c5 c6
  go_wp2_with fail
  refine (apk_any w2 v4 ([] ++ [193, ki]) kt ks (by simp) _ O4.out).mono ?_
  rintro r w5 ⟨v5, rfl, h5, _⟩
  have O5 : Hid (OwnB w2 v5 (([] ++ [193, ki]) ++ bys kt 2 ++ bys ks 4) w5) := Lib.hid h5
  clear h5 O4 c0 c1 c2 c3 c4 c5 c6
  obtain ⟨c0, c1, c2, c3, c4, c5, c6⟩ := X2.out.keep (O5.out.below.block _ X2.out.lt)
  simp only at c0 c1 c2 c3 c4 c5 c6
  go_wp2_with fail
  refine (apn4_any w2 v5 (([] ++ [193, ki]) ++ bys kt 2 ++ bys ks 4) em (by simp [bys_len]) _ O5.out).mono ?_
  rintro r w6 ⟨v6, rfl, h6, _⟩
  have O6 : Hid (OwnB w2 v6 ((([] ++ [193, ki]) ++ bys kt 2 ++ bys ks 4) ++ bys em 4) w6) := Lib.hid h6
  clear h6 O5 c0 c1 c2 c3 c4 c5 c6
  obtain ⟨c0, c1, c2, c3, c4, c5, c6⟩ := X2.out.keep (O6.out.below.block _ X2.out.lt)
  simp only at c0 c1 c2 c3 c4 c5 c6
  go_wp2_with fail
  refine (apn4_any w2 v6 ((([] ++ [193, ki]) ++ bys kt 2 ++ bys ks 4) ++ bys em 4) ti (by simp [bys_len]) _ O6.out).mono ?_
  rintro r w7 ⟨v7, rfl, h7, _⟩
  have O7 : Hid (OwnB w2 v7 (((([] ++ [193, ki]) ++ bys kt 2 ++ bys ks 4) ++ bys em 4) ++ bys ti 4) w7) := Lib.hid h7
  clear h7 O6 c0 c1 c2 c3 c4 c5 c6
  obtain ⟨c0, c1, c2, c3, c4, c5, c6⟩ := X2.out.keep (O7.out.below.block _ X2.out.lt)
  simp only at c0 c1 c2 c3 c4 c5 c6
  go_wp2_with fail
  refine (apk_any w2 v7 (((([] ++ [193, ki]) ++ bys kt 2 ++ bys ks 4) ++ bys em 4) ++ bys ti 4) tt ts (by simp [bys_len]) _ O7.out).mono ?_
  rintro r w8 ⟨v8, rfl, h8, _⟩
  have O8 : Hid (OwnB w2 v8 ((((([] ++ [193, ki]) ++ bys kt 2 ++ bys ks 4) ++ bys em 4) ++ bys ti 4) ++ bys tt 2 ++ bys ts 4) w8) := Lib.hid h8
  clear h8 O7 c0 c1 c2 c3 c4 c5 c6
  have EQ : ((((([] ++ [193, ki]) ++ bys kt 2 ++ bys ks 4) ++ bys em 4) ++ bys ti 4) ++ bys tt 2 ++ bys ts 4) = frame22 ⟨kt, ks, em, ti, ki, tt, ts⟩ := by rw [HR.out]; simp
  rw [EQ] at O8
  clear EQ HR
  obtain ⟨a, cap, hv⟩ := OwnB.done O8.out (frame22_len _) (by decide)
  subst hv
  generalize frame22 ⟨kt, ks, em, ti, ki, tt, ts⟩ = F at *
  have BR := Lib.hid (OwnB.brow O8.out HL.out)
  have FL := Lib.hid BR.out.2
  have crcb := crc_lt HL.out
  go_wp2_with fail
  refine (sum_any a 22 cap F (by decide) _ BR.out.1).mono ?_
  rintro r w9 ⟨rfl, rfl⟩
  go_wp2_with fail
  refine (apn2_any w2 _ F (crc F) (by rw [← FL.out]; decide) _ O8.out).mono ?_
  rintro r w10 ⟨v10, rfl, h10, _⟩
  have OO := Lib.hid h10
  clear h10
  obtain ⟨a2, cap2, hv⟩ := OwnB.done (n := 24) OO.out (by rw [List.length_append, bys_len, ← FL.out]) (by decide)
  subst hv
  go_wp2_with fail
  go_ret2
  exact ⟨a2, cap2, rfl, by rw [HF.out]; exact OwnL.base OO.out G2.out.below⟩
end Go.Proofs.Ytebdldinlodgpaa.Rc
