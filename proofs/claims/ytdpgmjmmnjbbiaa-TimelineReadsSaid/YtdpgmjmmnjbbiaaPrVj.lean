/-
  Layer 6 (timeline): the law's reads; the walk of TimelineReads: the answer is true. Condition: the list among the arguments reads as changes.
-/
import Derived.Test.YtdpgmjmmnjbbiaaPrVi
namespace Go.Proofs.Ytdpgmjmmnjbbiaa.Tl
open Go Go.RowKit Go.Lib Go.Sort Go.Shelf Go.Proofs Go.Proofs.Ytdpgmjmmnjbbiaa Go.Proofs.Ytdpgmjmmnjbbiaa.Tp
set_option linter.unusedVariables false

theorem eq3 (x0 x1 x2 : Int) (w : World) : (Op.equalIn 10000 54 (.agg #[.int .i64 x0, .int .i64 x1, .int .i64 x2]) (.agg #[.int .i64 x0, .int .i64 x1, .int .i64 x2])).run Try.prog w = .ok true w := by
  have hS : Try.prog.underlying 54 = some (.struct (Try.prog.fieldsOf 54)) := by kernel_rfl
  have hp : Try.prog.stoodInHeld 54 = false := by kernel_rfl
  have u3 := Try.underlying3
  have a3 := Try.isAgg3
  have z3 := Try.sizeOf3
  rw [show (10000 : Nat) = 9999 + 1 from rfl, run_equalIn_agg w 9999 54 _ _ hS hp]
  simp only [Program.fieldsOf, Try.underlying54]
  go_simp
theorem eqf3 (x0 x1 x2 : Int) (w : World) : (binOp .neq 54 (.agg #[.int .i64 x0, .int .i64 x1, .int .i64 x2]) (.agg #[.int .i64 x0, .int .i64 x1, .int .i64 x2])).run Try.prog w = .ok (.bool false) w := by
  rw [run_neq_struct, eq3]; rfl
theorem grd3 : Try.prog.eqGuardType Try.prog.depth 54 = false := by kernel_rfl
/-- The row holds these, whatever lies behind. -/
def Rw3 (W : World) (a : Option Addr) (zs : List Slc) : Prop := 0 < zs.length → ∃ g, a = some ⟨g, 0, none⟩ ∧ g < W.heap.size ∧ ∀ i, i < zs.length → W.cell? ⟨g, i * 3, none⟩ = some (.int .i64 zs[i]!.fr) ∧ W.cell? ⟨g, i * 3 + 1, none⟩ = some (.int .i64 zs[i]!.to) ∧ W.cell? ⟨g, i * 3 + 2, none⟩ = some (.int .i64 zs[i]!.va)
theorem Rw3.more {W W' : World} {a : Option Addr} {zs : List Slc} (h : Rw3 W a zs) (hb : Below W.heap.size W W') : Rw3 W' a zs := by
  intro h0
  obtain ⟨g, e, hg, hc⟩ := h h0
  have key : ∀ j v, W.cell? ⟨g, j, none⟩ = some v → W'.cell? ⟨g, j, none⟩ = some v := fun j v hv => (World.cell?_of_block (a := ⟨g, j, none⟩) (hb.block g hg)).trans hv
  exact ⟨g, e, Nat.lt_of_lt_of_le hg hb.size, fun i hi => ⟨key _ _ (hc i hi).1, key _ _ (hc i hi).2.1, key _ _ (hc i hi).2.2⟩⟩
theorem eq2 (x0 x1 : Int) (w : World) : (Op.equalIn 10000 56 (.agg #[.int .i64 x0, .int .i64 x1]) (.agg #[.int .i64 x0, .int .i64 x1])).run Try.prog w = .ok true w := by
  have hS : Try.prog.underlying 56 = some (.struct (Try.prog.fieldsOf 56)) := by kernel_rfl
  have hp : Try.prog.stoodInHeld 56 = false := by kernel_rfl
  have u3 := Try.underlying3
  have a3 := Try.isAgg3
  have z3 := Try.sizeOf3
  rw [show (10000 : Nat) = 9999 + 1 from rfl, run_equalIn_agg w 9999 56 _ _ hS hp]
  simp only [Program.fieldsOf, Try.underlying56]
  go_simp
theorem eqf2 (x0 x1 : Int) (w : World) : (binOp .neq 56 (.agg #[.int .i64 x0, .int .i64 x1]) (.agg #[.int .i64 x0, .int .i64 x1])).run Try.prog w = .ok (.bool false) w := by
  rw [run_neq_struct, eq2]; rfl
theorem grd2 : Try.prog.eqGuardType Try.prog.depth 56 = false := by kernel_rfl
/-- The row holds these, whatever lies behind. -/
def Rw2 (W : World) (a : Option Addr) (zs : List Slc) : Prop := 0 < zs.length → ∃ g, a = some ⟨g, 0, none⟩ ∧ g < W.heap.size ∧ ∀ i, i < zs.length → W.cell? ⟨g, i * 2, none⟩ = some (.int .i64 zs[i]!.fr) ∧ W.cell? ⟨g, i * 2 + 1, none⟩ = some (.int .i64 zs[i]!.to)
theorem Rw2.more {W W' : World} {a : Option Addr} {zs : List Slc} (h : Rw2 W a zs) (hb : Below W.heap.size W W') : Rw2 W' a zs := by
  intro h0
  obtain ⟨g, e, hg, hc⟩ := h h0
  have key : ∀ j v, W.cell? ⟨g, j, none⟩ = some v → W'.cell? ⟨g, j, none⟩ = some v := fun j v hv => (World.cell?_of_block (a := ⟨g, j, none⟩) (hb.block g hg)).trans hv
  exact ⟨g, e, Nat.lt_of_lt_of_le hg hb.size, fun i hi => ⟨key _ _ (hc i hi).1, key _ _ (hc i hi).2⟩⟩
theorem RowS.rw {l : List Slc} {w w' : World} {a : Option Addr} (h : RowS l w a w') : Rw3 w' a l := fun h0 => by
  obtain ⟨g, e, _, hg, hc⟩ := h h0
  exact ⟨g, e, hg, hc⟩
theorem RowR.rw {l : List Slc} {w w' : World} {a : Option Addr} (h : RowR l w a w') : Rw2 w' a l := fun h0 => by
  obtain ⟨g, e, _, hg, hc⟩ := h h0
  exact ⟨g, e, hg, hc⟩
theorem slc_len {cs : List Chg} {k fr td : Int} : (slcA cs k fr td).length ≤ 100000 := by
  unfold slcA
  split
  · rename_i h
    obtain ⟨_, f0, ft, t1⟩ := chkE_ok h
    unfold slcL ranges
    have := days_len (valL cs k) (td + 1 - fr).toNat [] fr
    simp at this
    omega
  · simp
theorem dif_len {cs : List Chg} {a b fr td : Int} : (difA cs a b fr td).length ≤ 100000 := by
  unfold difA
  split
  · rename_i h
    obtain ⟨_, f0, ft, t1⟩ := chkE_ok h
    unfold difL ranges
    have := days_len (fun d => difF (valL cs a d) (valL cs b d)) (td + 1 - fr).toNat [] fr
    simp at this
    omega
  · simp
set_option maxRecDepth 100000 in
set_option maxHeartbeats 8000000 in
theorem reads_any (x : Option Addr) (n cap : Nat) (cs : List Chg) (ka kb fr td : Int) (w : World) (h : Lst w x n cap cs) :
    Calls Try.prog 8 #[.slice x n cap, .int .i64 ka, .int .i64 kb, .int .i64 fr, .int .i64 td] w (TrueR w) := by
  have C1 := Lib.hid (fun W h => at_any x n cap cs fr ka W h)
  have C2 := Lib.hid (fun W h => rat_any x n cap cs fr ka W h)
  have C3 := Lib.hid (fun W h => slices_any x n cap cs ka fr td W h)
  have C4 := Lib.hid (fun W h => rslc_any x n cap cs ka fr td W h)
  have C5 := Lib.hid (fun W h => diff_any x n cap cs ka kb fr td W h)
  have C6 := Lib.hid (fun W h => rdiff_any x n cap cs ka kb fr td W h)
  have C7 := Lib.hid (fun W (h : Lst W x n cap cs) => valid_any x n cap cs h.2.2 W h.1)
  have C8 := Lib.hid (fun W (h : Lst W x n cap cs) => rvalid_any x n cap cs h.2.2 W h.1)
  have H := Lib.hid h
  have SL := slc_len (cs := cs) (k := ka) (fr := fr) (td := td)
  have DL := dif_len (cs := cs) (a := ka) (b := kb) (fr := fr) (td := td)
  unfold AtR at C1 C2
  unfold SlsR at C3 C4
  unfold DifR at C5 C6
  clear h
  generalize slcA cs ka fr td = zs at *
  generalize difA cs ka kb fr td = ds at *
  generalize chkE cs fr td = er at *
  generalize (atO cs fr ka).getD 0 = p at *
  generalize (atO cs fr ka).isSome = q at *
  generalize atE cs fr = er2 at *
  generalize valE cs = er3 at *
  have n1 : (p != p) = false := by simp
  have n2 : (q != q) = false := by simp
  have n3 : (er != er) = false := by simp
  have n4 : (er2 != er2) = false := by simp
  have n5 : (er3 != er3) = false := by simp
  obtain ⟨N, hN⟩ : ∃ N, N = zs.length := ⟨_, rfl⟩
  obtain ⟨M, hM⟩ : ∃ M, M = ds.length := ⟨_, rfl⟩
  rw [← hN] at C3 C4 SL
  rw [← hM] at C5 C6 DL
  have Hzs := Lib.hid hN.symm
  have Hds := Lib.hid hM.symm
  clear hN hM
  have n6 : ((N : Int) != (N : Int)) = false := by simp
  have n7 : ((M : Int) != (M : Int)) = false := by simp
  go_enter Try.func8, Try.ntmps8
  go_wp2_with fail
  refine (C1.out _ H.out).mono ?_
  rintro e w1 ⟨rfl, b1⟩
  have H1 := Lib.hid (H.out.more b1)
  have B1 := Lib.hid b1
  clear b1 H C1
  go_wp2_with fail
  refine (C2.out _ H1.out).mono ?_
  rintro e w2 ⟨rfl, b2⟩
  have H2 := Lib.hid (H1.out.more b2)
  have B2 := Lib.hid (B1.out.trans (b2.mono B1.out.size))
  clear b2 H1 C2 B1
  go_wp2_with fail
  refine (C3.out _ H2.out).mono ?_
  rintro e w3 ⟨y1, d1, rfl, R1, b3⟩
  have H3 := Lib.hid (H2.out.more b3)
  have B3 := Lib.hid (B2.out.trans (b3.mono B2.out.size))
  have RA := Lib.hid R1.rw
  clear b3 H2 C3 B2 R1
  go_wp2_with fail
  refine (C4.out _ H3.out).mono ?_
  rintro e w4 ⟨y2, d2, rfl, R2, b4⟩
  have H4 := Lib.hid (H3.out.more b4)
  have B4 := Lib.hid (B3.out.trans (b4.mono B3.out.size))
  have RA4 := Lib.hid (RA.out.more b4)
  have RB4 := Lib.hid R2.rw
  clear b4 H3 C4 B3 R2 RA
  go_wp2_with fail
  refine (C5.out _ H4.out).mono ?_
  rintro e w5 ⟨y3, d3, rfl, R3, b5⟩
  have H5 := Lib.hid (H4.out.more b5)
  have B5 := Lib.hid (B4.out.trans (b5.mono B4.out.size))
  have RA5 := Lib.hid (RA4.out.more b5)
  have RB5 := Lib.hid (RB4.out.more b5)
  have RC5 := Lib.hid R3.rw
  clear b5 H4 C5 B4 R3 RA4 RB4
  go_wp2_with fail
  refine (C6.out _ H5.out).mono ?_
  rintro e w6 ⟨y4, d4, rfl, R4, b6⟩
  have H6 := Lib.hid (H5.out.more b6)
  have B6 := Lib.hid (B5.out.trans (b6.mono B5.out.size))
  have RA6 := Lib.hid (RA5.out.more b6)
  have RB6 := Lib.hid (RB5.out.more b6)
  have RC6 := Lib.hid (RC5.out.more b6)
  have RD6 := Lib.hid R4.rw
  clear b6 H5 C6 B5 R4 RA5 RB5 RC5
  go_wp2_with fail
  refine (C7.out _ H6.out).mono ?_
  rintro e w7 ⟨rfl, b7⟩
  have H7 := Lib.hid (H6.out.more b7)
  have B7 := Lib.hid (B6.out.trans (b7.mono B6.out.size))
  have RA7 := Lib.hid (RA6.out.more b7)
  have RB7 := Lib.hid (RB6.out.more b7)
  have RC7 := Lib.hid (RC6.out.more b7)
  have RD7 := Lib.hid (RD6.out.more b7)
  clear b7 H6 C7 B6 RA6 RB6 RC6 RD6
  go_wp2_with fail
  refine (C8.out _ H7.out).mono ?_
  rintro e w8 ⟨rfl, b8⟩
  have B8 := Lib.hid (B7.out.trans (b8.mono B7.out.size))
  have RA8 := Lib.hid (RA7.out.more b8)
  have RB8 := Lib.hid (RB7.out.more b8)
  have RC8 := Lib.hid (RC7.out.more b8)
  have RD8 := Lib.hid (RD7.out.more b8)
  clear b8 H7 C8 B7 RA7 RB7 RC7 RD7
  go_wp2_with fail
  go_loopw [25] (fun x wr => ∃ k : Nat, k ≤ N ∧ x = .int .i64 k ∧ Hid (Gr w8 wr)) (fun x _ => N - (intOf x).toNat)
  case atStart => exact ⟨0, by omega, rfl, Lib.hid (Gr.refl w8)⟩
  case round =>
    obtain ⟨k, hk, rfl, HG⟩ := hrel
    by_cases hlt : k < N
    · have hd0 : decide ((k : Int) < (N : Int)) = true := decide_eq_true (by omega)
      have i1 : (k : Int) < (N : Int) := by omega
      have i0 : (0 : Int) ≤ (k : Int) := by omega
      obtain ⟨g, hga, hgl, hgc⟩ := (RA8.out.more HG.out.below) (by have := Hzs.out; omega)
      obtain ⟨g', hgb, hgl', hgc'⟩ := (RB8.out.more HG.out.below) (by have := Hzs.out; omega)
      subst hga
      subst hgb
      obtain ⟨c0, c1, c2⟩ := hgc k (by have := Hzs.out; omega)
      obtain ⟨e0, e1, e2⟩ := hgc' k (by have := Hzs.out; omega)
      generalize zs[k]!.fr = v0 at c0 e0
      generalize zs[k]!.to = v1 at c1 e1
      generalize zs[k]!.va = v2 at c2 e2
      have K1 : ∀ nn os j v, wr.cell? ⟨g, j, none⟩ = some v → (grow (wr.drewN nn) os).cell? ⟨g, j, none⟩ = some v := fun nn os j v hv => (World.cell?_of_block (a := ⟨g, j, none⟩) ((Gr.below ⟨nn, os, rfl⟩ : Below wr.heap.size wr (grow (wr.drewN nn) os)).block g hgl)).trans hv
      have K2 : ∀ nn os j v, wr.cell? ⟨g', j, none⟩ = some v → (grow (wr.drewN nn) os).cell? ⟨g', j, none⟩ = some v := fun nn os j v hv => (World.cell?_of_block (a := ⟨g', j, none⟩) ((Gr.below ⟨nn, os, rfl⟩ : Below wr.heap.size wr (grow (wr.drewN nn) os)).block g' hgl')).trans hv
      have a0 := fun nn os => K1 nn os _ _ c0
      have b0 := fun nn os => K2 nn os _ _ e0
      have a1 := fun nn os => K1 nn os _ _ c1
      have b1 := fun nn os => K2 nn os _ _ e1
      have a2 := fun nn os => K1 nn os _ _ c2
      have b2 := fun nn os => K2 nn os _ _ e2
      have HF := fun W => eqf3 v0 v1 v2 W
      have HG2 := fun op a b W => run_eqGuard_agg (P := Try.prog) W op 54 a b #[.int .i64 v0, .int .i64 v1, .int .i64 v2] #[.int .i64 v0, .int .i64 v1, .int .i64 v2] grd3
      have mixed : Try.prog.follows Departure.mixedOrders = true := by kernel_rfl
      clear K1 K2 hgc hgc' hgl hgl' c0 e0 c1 e1 c2 e2
      go_wp2_with fail
      go_quiet_grown (fail)
      have G2 := Lib.hid (HG.out.trans (⟨nq, osq, rfl⟩ : Gr wr (grow (wr.drewN nq) osq)))
      clear a0 b0 a1 b1 a2 b2 HF HG2 mixed
      generalize grow (wr.drewN nq) osq = wx at *
      go_wp2_with fail
      go_roundw
      case rel => exact ⟨k + 1, by omega, by go_num, G2⟩
      case measure => simp [intOf]; omega
    · have hd0 : decide ((k : Int) < (N : Int)) = false := decide_eq_false (by omega)
      have RC9 := Lib.hid (RC8.out.more HG.out.below)
      have RD9 := Lib.hid (RD8.out.more HG.out.below)
      have B9 := Lib.hid (B8.out.trans (HG.out.below.mono B8.out.size))
      clear RC8 RD8 B8 HG RA8 RB8
      generalize wr = w9 at *
      go_wp2_with fail
      go_loopw [26] (fun x wr => ∃ k : Nat, k ≤ M ∧ x = .int .i64 k ∧ Hid (Gr w9 wr)) (fun x _ => M - (intOf x).toNat)
      case atStart => exact ⟨0, by omega, rfl, Lib.hid (Gr.refl w9)⟩
      case round =>
        obtain ⟨k, hk, rfl, HG⟩ := hrel
        by_cases hlt : k < M
        · have hd0 : decide ((k : Int) < (M : Int)) = true := decide_eq_true (by omega)
          have i1 : (k : Int) < (M : Int) := by omega
          have i0 : (0 : Int) ≤ (k : Int) := by omega
          obtain ⟨g, hga, hgl, hgc⟩ := (RC9.out.more HG.out.below) (by have := Hds.out; omega)
          obtain ⟨g', hgb, hgl', hgc'⟩ := (RD9.out.more HG.out.below) (by have := Hds.out; omega)
          subst hga
          subst hgb
          obtain ⟨c0, c1⟩ := hgc k (by have := Hds.out; omega)
          obtain ⟨e0, e1⟩ := hgc' k (by have := Hds.out; omega)
          generalize ds[k]!.fr = v0 at c0 e0
          generalize ds[k]!.to = v1 at c1 e1
          have K1 : ∀ nn os j v, wr.cell? ⟨g, j, none⟩ = some v → (grow (wr.drewN nn) os).cell? ⟨g, j, none⟩ = some v := fun nn os j v hv => (World.cell?_of_block (a := ⟨g, j, none⟩) ((Gr.below ⟨nn, os, rfl⟩ : Below wr.heap.size wr (grow (wr.drewN nn) os)).block g hgl)).trans hv
          have K2 : ∀ nn os j v, wr.cell? ⟨g', j, none⟩ = some v → (grow (wr.drewN nn) os).cell? ⟨g', j, none⟩ = some v := fun nn os j v hv => (World.cell?_of_block (a := ⟨g', j, none⟩) ((Gr.below ⟨nn, os, rfl⟩ : Below wr.heap.size wr (grow (wr.drewN nn) os)).block g' hgl')).trans hv
          have a0 := fun nn os => K1 nn os _ _ c0
          have b0 := fun nn os => K2 nn os _ _ e0
          have a1 := fun nn os => K1 nn os _ _ c1
          have b1 := fun nn os => K2 nn os _ _ e1
          have HF := fun W => eqf2 v0 v1 W
          have HG2 := fun op a b W => run_eqGuard_agg (P := Try.prog) W op 56 a b #[.int .i64 v0, .int .i64 v1] #[.int .i64 v0, .int .i64 v1] grd2
          have mixed : Try.prog.follows Departure.mixedOrders = true := by kernel_rfl
          clear K1 K2 hgc hgc' hgl hgl' c0 e0 c1 e1
          go_wp2_with fail
          go_quiet_grown (fail)
          have G2 := Lib.hid (HG.out.trans (⟨nq, osq, rfl⟩ : Gr wr (grow (wr.drewN nq) osq)))
          clear a0 b0 a1 b1 HF HG2 mixed
          generalize grow (wr.drewN nq) osq = wx at *
          go_wp2_with fail
          go_roundw
          case rel => exact ⟨k + 1, by omega, by go_num, G2⟩
          case measure => simp [intOf]; omega
        · have hd0 : decide ((k : Int) < (M : Int)) = false := decide_eq_false (by omega)
          go_wp2_with fail
          go_ret
          exact ⟨rfl, B9.out.trans (HG.out.below.mono B9.out.size)⟩

set_option maxRecDepth 100000 in
set_option maxHeartbeats 4000000 in
theorem reads_walk (t0 : Option Addr) (len cap : Nat) (zs : List Int) (x : Option Addr) (n ca : Nat) (cs : List Chg) (ka kb fr td : Int) (w : World) (hr : IsRow w t0 len cap zs) (hlen : len ≤ 9223372036854775807) (h : Lst w x n ca cs) :
    Calls Try.prog 3 #[.slice t0 len cap, .slice x n ca, .int .i64 ka, .int .i64 kb, .int .i64 fr, .int .i64 td] w (TrueR w) := by
  have T0 := Lib.hid (tape_new hr hlen 45)
  have B0 := Lib.hid (show Below w.heap.size w (w.alloc (.cells #[.slice t0 len cap, .int .i64 0] 45)) from (Below.refl _ _).alloc (Nat.le_refl _) _)
  have MA := Lib.hid (fun W (hB : Below w.heap.size w W) => reads_any x n ca cs ka kb fr td W (h.more hB))
  clear hr hlen h
  go_enter Try.func3, Try.ntmps3
  go_wp2_with fail
  refine (gnew_any t0 len cap _).mono ?_
  rintro e w0 ⟨rfl, rfl⟩
  go_wp2_with fail
  go_loopw [14] (fun z wr => ∃ i : Nat, i ≤ 4 ∧ z = .int .i64 i ∧ Hid (TapeAt w.heap.size wr) ∧ Hid (Below w.heap.size w wr)) (fun z _ => 4 - (intOf z).toNat)
  case atStart => exact ⟨0, by omega, rfl, T0, B0⟩
  case round =>
    clear T0 B0
    obtain ⟨i, hi, rfl, HT, HB⟩ := hrel
    by_cases hlt : i < 4
    · have hd0 : decide ((i : Int) < 4) = true := decide_eq_true (by omega)
      go_wp2_with fail
      refine (changes_any w.heap.size 7 true (by omega) _ HT.out).mono ?_
      rintro e w1 ⟨a1, c1, cs1, rfl, hA1, hl1, _, T1, O1⟩
      have HT1 := Lib.hid T1
      have NB1 := Lib.hid (hA1.ne (b := w.heap.size) HT.out.lt)
      have L1 := Lib.hid (hA1.lst (by omega))
      have B1 := Lib.hid (HB.out.trans (O1.below (Nat.le_refl _) HB.out.size))
      clear HT HB hA1 T1 O1
      generalize cs1.length = n1 at *
      go_wp2_with fail
      refine (next_any w.heap.size 9 (by omega) (by omega) _ HT1.out).mono ?_
      rintro e w2 ⟨F, rfl, F0, F1, T2, O2⟩
      have HT2 := Lib.hid T2
      have L2 := Lib.hid (L1.out.only O2 NB1.out)
      have B2 := Lib.hid (B1.out.trans (O2.below (Nat.le_refl _) B1.out.size))
      have wF : IntKind.i64.wrap (F - 1) = F - 1 := by rw [IntKind.wrap_i64]; omega
      clear HT1 L1 B1 T2 O2
      go_wp2_with fail
      refine (next_any w.heap.size 8 (by omega) (by omega) _ HT2.out).mono ?_
      rintro e w3 ⟨G, rfl, G0, G1, T3, O3⟩
      have HT3 := Lib.hid T3
      have L3 := Lib.hid (L2.out.only O3 NB1.out)
      have B3 := Lib.hid (B2.out.trans (O3.below (Nat.le_refl _) B2.out.size))
      clear HT2 L2 B2 T3 O3
      go_wp2_with fail
      refine (day_any w.heap.size _ HT3.out).mono ?_
      rintro e w4 ⟨D, rfl, D0, D1, T4, O4⟩
      have HT4 := Lib.hid T4
      have L4 := Lib.hid (L3.out.only O4 NB1.out)
      have B4 := Lib.hid (B3.out.trans (O4.below (Nat.le_refl _) B3.out.size))
      clear HT3 L3 B3 T4 O4
      go_wp2_with fail
      refine (day_any w.heap.size _ HT4.out).mono ?_
      rintro e w5 ⟨E, rfl, E0, E1, T5, O5⟩
      have HT5 := Lib.hid T5
      have L5 := Lib.hid (L4.out.only O5 NB1.out)
      have B5 := Lib.hid (B4.out.trans (O5.below (Nat.le_refl _) B4.out.size))
      clear HT4 L4 B4 T5 O5
      have C := Lib.hid (reads_any a1 n1 c1 cs1 (F - 1) G D E w5 L5.out)
      clear L5 NB1
      go_wp2_with fail
      refine C.out.mono ?_
      rintro e w6 ⟨rfl, b6⟩
      have HT6 := Lib.hid (HT5.out.below b6)
      have B6 := Lib.hid (B5.out.trans (b6.mono B5.out.size))
      clear HT5 B5 b6 C wF
      go_wp2_with fail
      go_roundw
      case rel => exact ⟨i + 1, by omega, by go_num, HT6, B6⟩
      case measure => simp [intOf]; omega
    · have hd0 : decide ((i : Int) < 4) = false := decide_eq_false (by omega)
      have M := Lib.hid (MA.out _ HB.out)
      clear MA HT
      by_cases q1 : 40 < n
      · have t1 : decide ((40 : Int) < (n : Int)) = true := decide_eq_true (by omega)
        go_wp2_with fail
        go_ret
        exact ⟨rfl, HB.out⟩
      · have t1 : decide ((40 : Int) < (n : Int)) = false := decide_eq_false (by omega)
        go_wp2_with (first
          | (go_at_call 8; (with_reducible refine M.out.mono ?_); rintro e w8 ⟨rfl, b8⟩)
          | (go_at_call 12; (with_reducible refine (sane_any _).mono ?_); rintro e w9 ⟨rfl, b9⟩))
        go_ret
        exact ⟨rfl, (HB.out.trans (b8.mono HB.out.size)).trans (b9.mono (HB.out.trans (b8.mono HB.out.size)).size)⟩
end Go.Proofs.Ytdpgmjmmnjbbiaa.Tl
