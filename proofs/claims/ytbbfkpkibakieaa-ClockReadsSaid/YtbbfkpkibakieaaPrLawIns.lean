/-
  ClockInstants returns true: an instant is one of the instants of its local minute, and these have this local minute, in ascending order. Condition: the tape's cells hold ints.
-/
import Derived.Test.YtbbfkpkibakieaaPrZk2
import Derived.Deep.RegionHeld3
namespace Go.Proofs.Ytbbfkpkibakieaa
open Go Go.RowKit Go.Lib Go.Proofs.Ytbbfkpkibakieaa.Tp

/-- The instants of a local minute: each one has it, they ascend, and every instant that has it is among them. -/
theorem iV_spec {off : Int} {cs : List (Int × Int)} (l : Int) (h : vE off cs = 0) :
    (∀ x ∈ iV off cs l, 0 ≤ x ∧ x ≤ 120968639 ∧ lV off cs x = l) ∧ (∀ x, 0 ≤ x → x ≤ 120968639 → lV off cs x = l → x ∈ iV off cs l) ∧ (iV off cs l).Pairwise (· < ·) ∧ (iV off cs l).length ≤ cs.length + 1 := by
  have e : iV off cs l = (iL (nearT l) (spL off cs)).reverse := by unfold iV; rw [if_pos h]
  obtain ⟨a1, a2, a3⟩ := iL_spec (nearT l) (spL off cs) END (desc_spL off cs h)
  have hb := offV_bd (desc_spL off cs h)
  rw [e]
  unfold END at a1 a2
  refine ⟨fun x hx => ?_, fun x x0 x1 x2 => ?_, ?_, ?_⟩
  · obtain ⟨b1, b2, b3⟩ := a1 x (by simpa using hx)
    have hbx := hb x
    refine ⟨b1, by omega, ?_⟩
    rw [lV_ok h b1 (by omega), b3]
    unfold nearT at *
    split at b3
    · omega
    · split at b3
      · omega
      · rw [if_neg (by omega), if_neg (by omega)]
  · rw [lV_ok h x0 x1] at x2
    have hbx := hb x
    have en : nearT l = l := by unfold nearT; rw [if_neg (by omega), if_neg (by omega)]
    rw [List.mem_reverse]
    exact a2 x x0 (by omega) (by rw [en]; exact x2)
  · rw [List.pairwise_reverse]; exact a3
  · rw [List.length_reverse]
    refine Nat.le_trans (iL_length _ _) ?_
    have h2 : ∀ (to : Int) (r : List (Int × Int)), (spP to r).length = r.length := by
      intro to r
      induction r generalizing to with
      | nil => rfl
      | cons c r ih => simp [spP, ih]
    have h3 : (lastP (toO END cs.reverse) off).length ≤ 1 := by unfold lastP; split <;> simp
    rw [spL_eq, List.length_append, h2, List.length_reverse]
    omega

/-- The cells from x on hold these ints. -/
structure Cells (w : World) (x : Addr) (xs : List Int) : Prop where
  lt : x.block < w.heap.size
  cell : ∀ j (h : j < xs.length), w.cell? (x.add j) = some (.int .i64 xs[j])
theorem Cells.below {w w' : World} {x : Addr} {xs : List Int} (h : Cells w x xs) (hb : Below w.heap.size w w') : Cells w' x xs :=
  ⟨Nat.lt_of_lt_of_le h.lt hb.size, fun j hj => (hb.cell (by rw [addB]; exact h.lt)).trans (h.cell j hj)⟩
theorem cells_of {w : World} {base : Nat} {v : Value} {xs : List Int} (h : IntsAt w base v xs) : (xs = [] ∧ ∃ a cap, v = .slice a 0 cap) ∨ ∃ x cap, v = .slice (some x) xs.length cap ∧ 0 < xs.length ∧ Cells w x xs := by
  obtain ⟨a, cap, rfl, hc⟩ := h
  rcases Nat.eq_zero_or_pos xs.length with h0 | h0
  · obtain rfl : xs = [] := List.length_eq_zero_iff.mp h0
    exact .inl ⟨rfl, a, cap, rfl⟩
  · obtain ⟨x, rfl, _, hx, _⟩ := hc 0 h0
    refine .inr ⟨x, cap, rfl, h0, hx, fun j hj => ?_⟩
    obtain ⟨x', e, _, _, hj'⟩ := hc j hj
    injection e with e
    subst e
    exact hj'

set_option maxRecDepth 100000 in
set_option maxHeartbeats 4000000 in
theorem ins_walk (a : Option Addr) (len cap : Nat) (zs : List Int) (lo : Int) (w : World) (hrow : IsRow w a len cap zs) (hl : len ≤ 9223372036854775807) :
    Calls Try.prog 5 #[.slice a len cap, .int .i64 lo] w (RetB true w) := by
  have T0 := tape_new hrow hl 50
  have O0 := (Only.refl w.heap.size w).alloc (.cells #[.slice a len cap, .int .i64 0] 50)
  have hs0 : w.heap.size < (w.alloc (.cells #[.slice a len cap, .int .i64 0] 50)).heap.size := by simp
  go_enter Try.func5, Try.ntmps5
  go_wp2_with fail
  refine (gnew_any _ _ _ _).mono ?_
  rintro e w1 ⟨rfl, hw1⟩
  rw [← hw1] at T0 O0 hs0
  clear hw1
  go_wp2_with fail
  refine (gzone_any w.heap.size _ T0).mono ?_
  rintro e w2 ⟨off, za, zn, zc, cs, rfl, hv, hn, R2, N2, T2, O2⟩
  go_wp2_with fail
  refine (gnear_any w.heap.size _ T2).mono ?_
  rintro e w3 ⟨n, rfl, p0, p1, T3, O3⟩
  have hne : ∀ y, za = some y → w.heap.size < y.block := fun y hy => by have := N2 y hy; omega
  have K4 := ZK.new (w0 := w) (off := off) (cap := zc) ((R2.only' O3 hne).mono O3.size) hne T3 ((O0.trans O2).trans O3)
  have hcl := R2.1
  clear R2 N2 T2 O2 T0 O0 T3 O3 hne
  have C1 := local_any off za zn zc cs n (by omega)
  rw [vAE_ok hv (by omega) (by omega)] at C1
  have C2 := instants_any off za zn zc cs (lV off cs n) (by omega)
  rw [hv] at C2
  obtain ⟨i1, i2, i3, i4⟩ := iV_spec (off := off) (cs := cs) (lV off cs n) hv
  have i2' := i2 n (by omega) (by omega) rfl
  have C3 := instants_any off za zn zc cs lo (by omega)
  rw [hv] at C3
  obtain ⟨j1, _, _, j4⟩ := iV_spec (off := off) (cs := cs) lo hv
  have H1 := Lib.hid C1
  have H2 := Lib.hid C2
  have H3 := Lib.hid C3
  have H4 := Lib.hid (fun t => local_any off za zn zc cs t (by omega))
  have HV := Lib.hid hv
  have I1 := Lib.hid i1
  have I2 := Lib.hid i2'
  have I3 := Lib.hid i3
  have J1 := Lib.hid j1
  clear C1 C2 C3 i1 i2 i3 i2' j1 hv
  generalize iV off cs (lV off cs n) = xs at *
  generalize iV off cs lo = ys at *
  generalize lV off cs n = m at *
  have z0 := K4.box.c0
  have z1 := K4.box.c1
  go_wp2_with fail
  refine (H1.out _ K4.row).mono ?_
  rintro e w6 ⟨rfl, h6⟩
  have K6 := K4.below h6
  clear z0 z1 K4 h6
  have z0 := K6.box.c0
  have z1 := K6.box.c1
  go_wp2_with fail
  refine (H2.out _ K6.row).mono ?_
  rintro e w7 ⟨v, rfl, ho, h7⟩
  have K7 := K6.below h7
  have X7 := cells_of (ints_own ho)
  clear z0 z1 K6 h7 ho
  rcases X7 with ⟨e, _⟩ | ⟨x, xc, rfl, xs0, X7⟩
  · have := I2.out
    rw [e] at this
    cases this
  go_wp2_with fail
  have hxl : xs.length ≤ 9223372036854775807 := by omega
  go_loopw [12, 13] (fun f iv wr => ∃ (k : Nat) (fb : Bool), iv = .int .i64 k ∧ k ≤ xs.length ∧ f = .bool fb ∧ Hid (fb = true ↔ n ∈ xs.take k) ∧ Hid (ZK w w.heap.size w3.heap.size off za zn zc cs wr) ∧ Hid (Cells wr x xs)) (fun _ iv _ => xs.length - (Go.RowKit.intOf iv).toNat)
  case atStart => exact ⟨0, false, rfl, Nat.zero_le _, rfl, Lib.hid (by simp), Lib.hid K7, Lib.hid X7⟩
  case round =>
    obtain ⟨k, fb, rfl, hk, rfl, HF, HK, HX⟩ := hrel
    clear K7 X7
    by_cases hlt : k < xs.length
    · have xlt := HX.out.lt
      have cx := HX.out.cell k hlt
      have HP : Hid (∀ j, j + 1 = k → ∃ r, wr.cell? (x.add j) = some (.int .i64 r) ∧ r < xs[k]) := Lib.hid fun j hj =>
        ⟨_, HX.out.cell j (by omega), List.pairwise_iff_getElem.mp I3.out j k (by omega) hlt (by omega)⟩
      have hmem : xs[k] ∈ xs := List.getElem_mem hlt
      obtain ⟨q0, q1, q2⟩ := I1.out _ hmem
      have C := H4.out xs[k]
      rw [vAE_ok HV.out q0 q1, q2] at C
      have HC := Lib.hid C
      have hq : xs[k]? = some xs[k] := by simp [hlt]
      have HQ := Lib.hid hq
      have HT := Lib.hid (List.take_succ_eq_append_getElem hlt)
      clear C hmem hq
      generalize xs[k] = q at *
      have z0 := HK.out.box.c0
      have z1 := HK.out.box.c1
      have xlt2 := xlt
      go_wp2_with fail
      go_region_held3 (fun w' => w'.cell? ⟨w3.heap.size, 0, none⟩ = some (.int .i64 off) ∧ w'.cell? ⟨w3.heap.size, 1, none⟩ = some (.slice za zn zc) ∧ w'.cell? (x.add k) = some (.int .i64 q))
        (first | exact ⟨K8.box.c0, K8.box.c1, cx8⟩ | go_keep)
        (first | (go_at_call 19; refine (HC.out _ (HK.out.below (Below.drew (Below.refl _ _))).row).mono ?_; rintro e w8 ⟨rfl, h8⟩; have K8 := (HK.out.below (Below.drew (Below.refl _ _))).below h8; have cx8 := (h8.cell (p := x.add k) (by rw [addB]; exact xlt)).trans cx; have K8' : Hid (Below wr.heap.size wr w8) := Lib.hid ((Below.drew (Below.refl _ _)).trans h8)))
      have X8 := HX.out.below (K8'.out)
      go_wp2_with fail
      have hd : k = 0 ∨ ∃ j, k = j + 1 := by cases k with | zero => exact .inl rfl | succ j => exact .inr ⟨j, rfl⟩
      rcases hd with rfl | ⟨j, rfl⟩
      · have e0 : x.add 0 = x := by simp [Addr.add]
        rw [e0] at cx8
        clear e0
        have gx := K8'
        go_quiet (fail)
        clear gx
        by_cases hqn : q = n
        · have tq : (q == n) = true := by simp [hqn]
          rcases fb with _ | _
          · go_wp2_with fail
            go_roundw
            case rel => exact ⟨0 + 1, true, by go_num, by omega, rfl, Lib.hid (by rw [HT.out, hqn]; simp), Lib.hid (K8.below (below_drewN (Below.refl _ _) _)), Lib.hid (X8.below (below_drewN (Below.refl _ _) _))⟩
            case measure => simp [Go.RowKit.intOf]; omega
          · go_wp2_with fail
            go_roundw
            case rel => exact ⟨0 + 1, true, by go_num, by omega, rfl, Lib.hid (by rw [HT.out, hqn]; simp), Lib.hid (K8.below (below_drewN (Below.refl _ _) _)), Lib.hid (X8.below (below_drewN (Below.refl _ _) _))⟩
            case measure => simp [Go.RowKit.intOf]; omega
        · have tq : (q == n) = false := by simp [hqn]
          rcases fb with _ | _
          · go_wp2_with fail
            go_roundw
            case rel => exact ⟨0 + 1, false, by go_num, by omega, rfl, Lib.hid (by rw [HT.out, List.mem_append, ← HF.out]; simp; omega), Lib.hid (K8.below (below_drewN (Below.refl _ _) _)), Lib.hid (X8.below (below_drewN (Below.refl _ _) _))⟩
            case measure => simp [Go.RowKit.intOf]; omega
          · go_wp2_with fail
            go_roundw
            case rel => exact ⟨0 + 1, true, by go_num, by omega, rfl, Lib.hid (by rw [HT.out, List.mem_append, ← HF.out]; simp), Lib.hid (K8.below (below_drewN (Below.refl _ _) _)), Lib.hid (X8.below (below_drewN (Below.refl _ _) _))⟩
            case measure => simp [Go.RowKit.intOf]; omega
      · obtain ⟨r, cr, hr⟩ := HP.out j rfl
        have cr8 : w8.cell? (x.add j) = some (.int .i64 r) := (K8'.out.cell (by rw [addB]; exact xlt)).trans cr
        have hrd : decide (q ≤ r) = false := by simp; omega
        have e1 : x.add (j + 1) = ⟨x.block, x.off + (j + 1), none⟩ := by simp [Addr.add]
        have cx9 : w8.cell? ⟨x.block, x.off + (j + 1), none⟩ = some (.int .i64 q) := by rw [← e1]; exact cx8
        clear e1
        clear hr cr cx HP
        have g1 : IntKind.i64.wrap ((j : Int) + 1 - 1) = (j : Int) := by rw [show (j : Int) + 1 - 1 = j by omega]; exact IntWalk.i64_in _ (by omega)
        have g2 : (0 : Int) ≤ (j : Int) := by omega
        have g3 : ((j : Int)).toNat = j := by omega
        have g4 : (j : Int) < (xs.length : Int) := by omega
        have g5 : (j : Int) + 1 < (xs.length : Int) := by omega
        have g6 : (0 : Int) ≤ (j : Int) + 1 := by omega
        have g7 : ((j : Int) + 1).toNat = j + 1 := by omega
        have gx := K8'
        go_quiet (fail)
        clear g1 g2 g3 g4 g5 g6 g7
        clear gx
        by_cases hqn : q = n
        · have tq : (q == n) = true := by simp [hqn]
          rcases fb with _ | _
          · go_wp2_with fail
            go_roundw
            case rel => exact ⟨j + 1 + 1, true, by go_num, by omega, rfl, Lib.hid (by rw [HT.out, hqn]; simp), Lib.hid (K8.below (below_drewN (Below.refl _ _) _)), Lib.hid (X8.below (below_drewN (Below.refl _ _) _))⟩
            case measure => simp [Go.RowKit.intOf]; omega
          · go_wp2_with fail
            go_roundw
            case rel => exact ⟨j + 1 + 1, true, by go_num, by omega, rfl, Lib.hid (by rw [HT.out, hqn]; simp), Lib.hid (K8.below (below_drewN (Below.refl _ _) _)), Lib.hid (X8.below (below_drewN (Below.refl _ _) _))⟩
            case measure => simp [Go.RowKit.intOf]; omega
        · have tq : (q == n) = false := by simp [hqn]
          rcases fb with _ | _
          · go_wp2_with fail
            go_roundw
            case rel => exact ⟨j + 1 + 1, false, by go_num, by omega, rfl, Lib.hid (by rw [HT.out, List.mem_append, ← HF.out]; simp; omega), Lib.hid (K8.below (below_drewN (Below.refl _ _) _)), Lib.hid (X8.below (below_drewN (Below.refl _ _) _))⟩
            case measure => simp [Go.RowKit.intOf]; omega
          · go_wp2_with fail
            go_roundw
            case rel => exact ⟨j + 1 + 1, true, by go_num, by omega, rfl, Lib.hid (by rw [HT.out, List.mem_append, ← HF.out]; simp), Lib.hid (K8.below (below_drewN (Below.refl _ _) _)), Lib.hid (X8.below (below_drewN (Below.refl _ _) _))⟩
            case measure => simp [Go.RowKit.intOf]; omega
    · obtain rfl : k = xs.length := by omega
      have hfb : fb = true := by rw [HF.out, List.take_length]; exact I2.out
      subst hfb
      have K8 := HK.out
      clear HF HK HX hlt
      have z0 := K8.box.c0
      have z1 := K8.box.c1
      go_wp2_with fail
      refine (H3.out _ K8.row).mono ?_
      rintro e w9 ⟨v9, rfl, ho, h9⟩
      have K9 := K8.below h9
      have X9 := cells_of (ints_own ho)
      clear z0 z1 K8 h9 ho
      have hyl : ys.length ≤ 9223372036854775807 := by omega
      rcases X9 with ⟨ey, ya, yc, rfl⟩ | ⟨y, yc, rfl, ys0, X9⟩
      · have z0 := K9.box.c0
        have z1 := K9.box.c1
        have ez : ys.length = 0 := by rw [ey]; rfl
        go_wp2_with fail
        go_loopw [18] (fun iv wr => iv = .int .i64 0 ∧ Hid (ZK w w.heap.size w3.heap.size off za zn zc cs wr)) (fun _ _ => 0)
        case atStart => exact ⟨rfl, Lib.hid K9⟩
        case round =>
          obtain ⟨rfl, HK⟩ := hrel
          clear z0 z1
          have z1 := HK.out.box.c1
          go_wp2_with fail
          refine (sane_any _).mono ?_
          rintro e w10 ⟨rfl, h10⟩
          have K10 := HK.out.below h10
          go_wp2
          go_ret
          exact ⟨rfl, K10.fin (Nat.le_refl _)⟩
      · go_wp2_with fail
        go_loopw [18] (fun iv wr => ∃ (k : Nat), iv = .int .i64 k ∧ k ≤ ys.length ∧ Hid (ZK w w.heap.size w3.heap.size off za zn zc cs wr) ∧ Hid (Cells wr y ys)) (fun iv _ => ys.length - (Go.RowKit.intOf iv).toNat)
        case atStart => exact ⟨0, rfl, Nat.zero_le _, Lib.hid K9, Lib.hid X9⟩
        case round =>
          obtain ⟨k, rfl, hk, HK, HX⟩ := hrel
          clear K9 X9
          by_cases hlt : k < ys.length
          · have xlt := HX.out.lt
            have cx := HX.out.cell k hlt
            obtain ⟨q0, q1, q2⟩ := J1.out _ (List.getElem_mem hlt)
            have C := H4.out ys[k]
            rw [vAE_ok HV.out q0 q1, q2] at C
            have HC := Lib.hid C
            clear C
            generalize ys[k] = q at *
            have z0 := HK.out.box.c0
            have z1 := HK.out.box.c1
            go_wp2_with fail
            go_region_held3 (fun w' => w'.cell? ⟨w3.heap.size, 0, none⟩ = some (.int .i64 off) ∧ w'.cell? ⟨w3.heap.size, 1, none⟩ = some (.slice za zn zc) ∧ w'.cell? (y.add k) = some (.int .i64 q))
              (first | exact ⟨K8.box.c0, K8.box.c1, cx8⟩ | go_keep)
              (first | (go_at_call 19; refine (HC.out _ (HK.out.below (Below.drew (Below.refl _ _))).row).mono ?_; rintro e w8 ⟨rfl, h8⟩; have K8 := (HK.out.below (Below.drew (Below.refl _ _))).below h8; have cx8 := (h8.cell (p := y.add k) (by rw [addB]; exact xlt)).trans cx; have K8' : Hid (Below _ _ w8) := Lib.hid ((Below.drew (Below.refl _ _)).trans h8)))
            have X8 := HX.out.below (K8'.out)
            clear cx8 cx z0 z1
            go_wp2_with fail
            go_roundw
            case rel => exact ⟨k + 1, by go_num, by omega, Lib.hid K8, Lib.hid X8⟩
            case measure => simp [Go.RowKit.intOf]; omega
          · obtain rfl : k = ys.length := by omega
            have K10 := HK.out
            have z1 := K10.box.c1
            have hle : ys.length ≤ zn + 1 := by omega
            clear HX HK hlt
            go_wp2_with fail
            refine (sane_any _).mono ?_
            rintro e w10 ⟨rfl, h10⟩
            have K11 := K10.below h10
            go_wp2
            go_ret
            exact ⟨rfl, K11.fin (Nat.le_refl _)⟩
end Go.Proofs.Ytbbfkpkibakieaa
