/-
  Layer 6 (timeline): the contract of the reference's Merge. Condition: the lists read as changes.
-/
import Derived.Test.YtdpgmjmmnjbbiaaPrUx
import Derived.Deep.RegionHeld3
import Derived.Deep.DeepCutAuto
import Derived.BigQuiet
namespace Go.Proofs.Ytdpgmjmmnjbbiaa.Tl
open Go Go.RowKit Go.Lib Go.Sort Go.Shelf Go.Proofs Go.Proofs.Ytdpgmjmmnjbbiaa Go.Proofs.Ytdpgmjmmnjbbiaa.Tp
set_option linter.unusedVariables false

theorem row_alloc {W : World} {b n : Nat} {v : Value} {xs : List Value} (h : W.ownsRow b 42 4 v n xs) (o : Obj) : (W.alloc o).ownsRow b 42 4 v n xs :=
  row_keep h fun g hg => Below.heap_alloc W o _ (h.lt g hg).2
set_option maxRecDepth 100000 in
set_option maxHeartbeats 16000000 in
theorem rmerge_any (a : Option Addr) (na ca : Nat) (l : List Chg) (b : Option Addr) (nb cb : Nat) (m : List Chg) (w : World) (ha : Lst w a na ca l) (hb : Lst w b nb cb m) :
    Calls Try.prog 26 #[.slice a na ca, .slice b nb cb] w (MrgR l m w) := by
  have C1 := Lib.hid (rvalid_any a na ca l ha.2.2 w ha.1)
  have HA := Lib.hid ha
  have HB := Lib.hid hb
  clear ha hb
  by_cases h1 : valE l = 0
  · have C2 := Lib.hid (fun W (h : Lst W b nb cb m) => rvalid_any b nb cb m h.2.2 W h.1)
    have n1 : na ≤ 1024 := by have := (valE_ok h1).1; rw [← HA.out.1.1]; exact this
    rw [h1] at C1
    by_cases h2 : valE m = 0
    · have n2 : nb ≤ 1024 := by have := (valE_ok h2).1; rw [← HB.out.1.1]; exact this
      rw [h2] at C2
      have E0 := Lib.hid (show mrgE l m = if 1024 < (unionL l m).length then 3 else 0 by unfold mrgE; rw [if_neg (by simp [h1]), if_neg (by simp [h2])])
      clear h1 h2
      obtain ⟨i0, hi0, hz0, hz1, hz2⟩ := info4
      have HQ := Lib.hid (And.intro hi0 (And.intro hz0 (And.intro hz1 hz2)))
      clear hi0 hz0 hz1 hz2
      obtain ⟨S, hS⟩ : ∃ S, S = na + nb := ⟨_, rfl⟩
      have HS := Lib.hid hS
      have LEN := Lib.hid (show (l ++ m).length = S by rw [List.length_append, HA.out.1.1, HB.out.1.1, hS])
      have hs1 : S ≤ 2048 := by omega
      have w1' : IntKind.i64.wrap ((na : Int) + (nb : Int)) = (S : Int) := by rw [IntKind.wrap_i64]; omega
      have w3' : (na : Int) + (nb : Int) = (S : Int) := by omega
      clear hS
      go_enter Try.func26, Try.ntmps26
      go_wp2_with fail
      refine C1.out.mono ?_
      rintro e w1 ⟨rfl, b1⟩
      have HB1 := Lib.hid (HB.out.more b1)
      have B1 := Lib.hid b1
      clear b1 C1
      go_wp2_with fail
      refine (C2.out w1 HB1.out).mono ?_
      rintro e w2 ⟨rfl, b2⟩
      have B2 := Lib.hid (B1.out.trans (b2.mono B1.out.size))
      clear b2 HB1 B1 C2
      go_wp2_with fail
      go_loopw [8, 9] (fun v z wr => ∃ (i : Nat) (out : List Chg), i ≤ S ∧ z = .int .i64 i ∧ Hid (OwnG w v out wr) ∧ Hid (UnI (l ++ m) i out) ∧ Hid (out = [] → v = .slice none 0 0)) (fun _ z _ => S - (intOf z).toNat)
      case atStart => exact ⟨0, [], by omega, rfl, Lib.hid ((OwnG.nil w).more B2.out), Lib.hid (UnI.start _), Lib.hid fun _ => rfl⟩
      case round =>
        clear B2
        obtain ⟨i, out, hi, rfl, HO, HU, HZ⟩ := hrel
        by_cases hlt : i < S
        · have hd0 : decide ((i : Int) < (S : Int)) = true := decide_eq_true (by omega)
          have hil : i < (l ++ m).length := by have := LEN.out; omega
          have US := Lib.hid (fun p hp he => HU.out.same hil p hp he)
          have UP := Lib.hid (fun p hp h1 h2 he => HU.out.put hil p hp h1 h2 he)
          have hol : out.length ≤ 2048 := by have := HU.out.1; omega
          have CA : Hid (∀ W, Below wr.heap.size wr W → i < na → ∃ x, a = some x ∧ At4 W (x.add (i * 4)) (l ++ m)[i]) := Lib.hid (fun W hW hia => by
            obtain ⟨x, hx, _, hc⟩ := ((HA.out.more HO.out.below).more hW).1.2 (by omega)
            refine ⟨x, hx, ?_⟩
            have e : (l ++ m)[i] = l[i]! := by
              have h9 : i < l.length := by rw [HA.out.1.1]; exact hia
              rw [List.getElem_append_left h9, getElem!_pos l i h9]
            rw [e]; exact hc i hia)
          have CB : Hid (∀ W, Below wr.heap.size wr W → ¬ i < na → ∃ x, b = some x ∧ At4 W (x.add ((i - na) * 4)) (l ++ m)[i]) := Lib.hid (fun W hW hia => by
            have hn := HS.out
            obtain ⟨x, hx, _, hc⟩ := ((HB.out.more HO.out.below).more hW).1.2 (by omega)
            refine ⟨x, hx, ?_⟩
            have e : (l ++ m)[i] = m[i - na]! := by
              have h8 : l.length = na := HA.out.1.1
              have h9 : i - na < m.length := by rw [HB.out.1.1]; omega
              rw [List.getElem_append_right (by omega), getElem!_pos m (i - na) h9]
              simp only [h8]
            rw [e]; exact hc (i - na) (by omega))
          have HIS := Lib.hid (show ¬ i < na → i - na < nb from fun h => by have := HS.out; omega)
          generalize (l ++ m)[i] = c at *
          clear hil HU
          obtain ⟨f, kn, va, de⟩ := c
          go_upto_if 35 with fail
          go_cut [10] from 36 to 46 (fun p wx => p = .pointer (some ⟨wr.heap.size, 0, none⟩) ∧ Hid (Bz wx wr.heap.size ⟨f, kn, va, de⟩) ∧ Hid (Below wr.heap.size wr wx))
          case first =>
            clear US UP HO HZ HQ
            have hB := Lib.hid (show Below wr.heap.size wr (wr.alloc (.cells #[.int .i64 0, .int .i64 0, .int .i64 0, .bool false] 42)) from (Below.refl _ _).alloc (Nat.le_refl _) _)
            by_cases hia : i < na
            · have t0 : decide ((i : Int) < (na : Int)) = true := decide_eq_true (by omega)
              obtain ⟨x, hx, a0, a1, a2, a3⟩ := CA.out _ hB.out hia
              simp only at a0 a1 a2 a3
              subst hx
              have j0 : (0 : Int) ≤ (i : Int) := by omega
              have j1 : (i : Int) < (na : Int) := by omega
              clear CA CB HA HB HIS
              go_wp2_with fail
              go_meet
              exact ⟨rfl, Lib.hid (Bz.new wr ⟨f, kn, va, de⟩ 42), Lib.hid ((Below.refl _ _).alloc (Nat.le_refl _) _)⟩
            · have t0 : decide ((i : Int) < (na : Int)) = false := decide_eq_false (by omega)
              obtain ⟨x, hx, a0, a1, a2, a3⟩ := CB.out _ hB.out hia
              simp only at a0 a1 a2 a3
              subst hx
              obtain ⟨j, hj⟩ : ∃ j, j = i - na := ⟨_, rfl⟩
              rw [← hj] at a0 a1 a2 a3
              have w4' : IntKind.i64.wrap ((i : Int) - (na : Int)) = (j : Int) := by rw [IntKind.wrap_i64]; omega
              have w5' : (i : Int) - (na : Int) = (j : Int) := by omega
              have j0 : (0 : Int) ≤ (j : Int) := by omega
              have j1 : (j : Int) < (nb : Int) := by have := HIS.out hia; omega
              clear CA CB HA HB HIS hj
              go_wp2_with fail
              go_meet
              exact ⟨rfl, Lib.hid (Bz.new wr ⟨f, kn, va, de⟩ 42), Lib.hid ((Below.refl _ _).alloc (Nat.le_refl _) _)⟩
          case rest =>
            obtain ⟨rfl, HX, hBw⟩ := hcut
            obtain ⟨A, cap, hv, hAf⟩ := HO.out.form
            subst hv
            have HO1 := Lib.hid (HO.out.more hBw.out)
            have hsw := HO.out.below.size
            have HNE : Hid ((Value.slice A out.length cap).ownBlock ≠ some wr.heap.size) := Lib.hid (fun e => by have := (HO.out.row.lt _ e).2; omega)
            clear hBw HO CA CB HIS
            generalize wr.heap.size = s at *
            have HAF := Lib.hid hAf
            clear hAf
            generalize hn : out.length = n at *
            have HN := Lib.hid hn
            clear hn
            have hcap1 : n + 1 ≤ maxLen := by unfold maxLen; omega
            have hcap2 : (n + 1) * 32 ≤ 140737488355328 := by omega
            have HSUB := Lib.hid (fun p => show n + 1 - (p + 1) = n - p by omega)
            go_wp2_with fail
            go_loopw [11] (fun z wy => ∃ p : Nat, p ≤ n ∧ z = .int .i64 p ∧ Hid (∀ t, t < p → lt out[t]! ⟨f, kn, va, de⟩) ∧ Hid (OwnG w (.slice A n cap) out wy) ∧ Hid (Bz wy s ⟨f, kn, va, de⟩)) (fun z _ => n - (intOf z).toNat)
            case atStart => exact ⟨0, by omega, rfl, Lib.hid (fun t h => absurd h (by omega)), HO1, HX⟩
            case round =>
              clear HO1 HX
              obtain ⟨p, hp, rfl, HLT, HOy, HXy⟩ := hrel
              have HSUBP := Lib.hid (HSUB.out p)
              by_cases hpn : p < n
              · have hd1 : decide ((p : Int) < (n : Int)) = true := decide_eq_true (by omega)
                obtain ⟨g, hA2⟩ := HAF.out p hpn
                subst hA2
                have j0 : (0 : Int) ≤ (p : Int) := by omega
                have j1 : (p : Int) < (n : Int) := by omega
                have CE := Lib.hid (HOy.out.cells HN.out hpn).1
                have LS := Lib.hid (fun (h : lt out[p]! ⟨f, kn, va, de⟩) => (show ∀ t, t < p + 1 → lt out[t]! ⟨f, kn, va, de⟩ from fun t ht => by
                  by_cases e : t = p
                  · subst e; exact h
                  · exact HLT.out t (by omega)))
                have US1 := Lib.hid (fun he => US.out p hpn he)
                have UP1 := Lib.hid (fun (h2 : ¬ lt out[p]! ⟨f, kn, va, de⟩) he => UP.out p hp HLT.out (fun _ => h2) (fun _ => he))
                have LTN := Lib.hid (cmpC_neg out[p]! ⟨f, kn, va, de⟩)
                have CM := Lib.hid (fun W => rcmp_any out[p]! ⟨f, kn, va, de⟩ W)
                have HE := fun W => eql_chg out[p]! ⟨f, kn, va, de⟩ W
                have HEI := Lib.hid (eqC_iff out[p]! ⟨f, kn, va, de⟩)
                generalize out[p]! = o at *
                obtain ⟨f2, k2, v2', d2⟩ := o
                have HG := fun op a b W => run_eqGuard_agg (P := Try.prog) W op 42 a b #[.int .i64 f2, .int .i64 k2, .int .i64 v2', .bool d2] #[.int .i64 f, .int .i64 kn, .int .i64 va, .bool de] grd_chg
                have CM2 : Hid (∀ W, Calls Try.prog 42 #[.agg #[.int .i64 f2, .int .i64 k2, .int .i64 v2', .bool d2], .agg #[.int .i64 f, .int .i64 kn, .int .i64 va, .bool de]] W _) := Lib.hid CM.out
                clear CM
                generalize cmpC ⟨f2, k2, v2', d2⟩ ⟨f, kn, va, de⟩ = R at *
                obtain ⟨q0, q1, q2, q3⟩ := CE.out
                obtain ⟨z0, z1, z2, z3⟩ := HXy.out.bx.at4
                simp only at q0 q1 q2 q3 z0 z1 z2 z3
                go_wp2_with fail
                clear HE HG
                go_region_held3 (fun w' => w'.cell? ⟨g, p * 4, none⟩ = some (.int .i64 f2) ∧ w'.cell? ⟨g, p * 4 + 1, none⟩ = some (.int .i64 k2) ∧ w'.cell? ⟨g, p * 4 + 2, none⟩ = some (.int .i64 v2') ∧ w'.cell? ⟨g, p * 4 + 3, none⟩ = some (.bool d2) ∧ w'.cell? ⟨s, 0, none⟩ = some (.int .i64 f) ∧ w'.cell? ⟨s, 1, none⟩ = some (.int .i64 kn) ∧ w'.cell? ⟨s, 2, none⟩ = some (.int .i64 va) ∧ w'.cell? ⟨s, 3, none⟩ = some (.bool de))
                  (first | exact ⟨q0, q1, q2, q3, z0, z1, z2, z3⟩ | exact ⟨Q8.out.1.1, Q8.out.1.2.1, Q8.out.1.2.2.1, Q8.out.1.2.2.2, Q8.out.2.1, Q8.out.2.2.1, Q8.out.2.2.2.1, Q8.out.2.2.2.2⟩)
                  (first | (go_at_call 42; (refine (CM2.out _).mono ?_); rintro e w8 ⟨rfl, b8⟩; have B8 : Hid (Below wr.heap.size wr w8) := Lib.hid ((Below.drew (Below.refl _ _)).trans b8); have Q8 : Hid (At4 w8 ⟨g, p * 4, none⟩ ⟨f2, k2, v2', d2⟩ ∧ At4 w8 ⟨s, 0, none⟩ ⟨f, kn, va, de⟩) := Lib.hid ⟨CE.out.block (B8.out.block _ CE.out.lt), HXy.out.bx.at4.block (B8.out.block _ HXy.out.bx.lt)⟩; clear b8))
                have HO8 := Lib.hid (HOy.out.more B8.out)
                have HX8 := Lib.hid (HXy.out.below B8.out)
                clear q0 q1 q2 q3 z0 z1 z2 z3 CM2 HOy HXy
                by_cases hR : R < 0
                · have tR : decide (R < 0) = true := decide_eq_true hR
                  go_wp2_with fail
                  go_roundw
                  case rel => exact ⟨p + 1, by omega, by go_num, Lib.hid (LS.out (LTN.out.1 hR)), HO8, HX8⟩
                  case measure => simp [intOf]; omega
                · have tR : decide (R < 0) = false := decide_eq_false hR
                  have HNL := Lib.hid (fun h => hR (LTN.out.2 h))
                  have L1 := fun nn os => Q8.out.1.block ((Gr.below ⟨nn, os, rfl⟩ : Below w8.heap.size w8 (grow (w8.drewN nn) os)).block _ Q8.out.1.lt)
                  have L2 := fun nn os => Q8.out.2.block ((Gr.below ⟨nn, os, rfl⟩ : Below w8.heap.size w8 (grow (w8.drewN nn) os)).block _ Q8.out.2.lt)
                  have a0 := fun n os => (L1 n os).1
                  have a1 := fun n os => (L1 n os).2.1
                  have a2 := fun n os => (L1 n os).2.2.1
                  have a3 := fun n os => (L1 n os).2.2.2
                  have e0 := fun n os => (L2 n os).1
                  have e1 := fun n os => (L2 n os).2.1
                  have e2 := fun n os => (L2 n os).2.2.1
                  have e3 := fun n os => (L2 n os).2.2.2
                  simp only at a0 a1 a2 a3 e0 e1 e2 e3
                  have HE := fun W => eql_chg ⟨f2, k2, v2', d2⟩ ⟨f, kn, va, de⟩ W
                  have HG := fun op a b W => run_eqGuard_agg (P := Try.prog) W op 42 a b #[.int .i64 f2, .int .i64 k2, .int .i64 v2', .bool d2] #[.int .i64 f, .int .i64 kn, .int .i64 va, .bool de] grd_chg
                  have mixed : Try.prog.follows Departure.mixedOrders = true := by kernel_rfl
                  have HEQ2 := Lib.hid HEI.out
                  clear L1 L2 LS LTN B8 Q8 CE HEI
                  simp only at HE
                  generalize eqC ⟨f2, k2, v2', d2⟩ ⟨f, kn, va, de⟩ = eb at HE HEQ2
                  cases eb
                  · have HNE2 := Lib.hid (UP1.out HNL.out (fun h => by have := HEQ2.out.2 h; cases this))
                    go_wp2_with fail
                    go_quiet_grown (fail)
                    have HOx := Lib.hid (HO8.out.more (Gr.below ⟨nq, osq, rfl⟩ : Below w8.heap.size w8 (grow (w8.drewN nq) osq)))
                    have HXx := Lib.hid (HX8.out.below (Gr.below ⟨nq, osq, rfl⟩ : Below w8.heap.size w8 (grow (w8.drewN nq) osq)))
                    clear a0 a1 a2 a3 e0 e1 e2 e3 HE HG HO8 HX8 mixed
                    generalize grow (w8.drewN nq) osq = wx at *
                    obtain ⟨bs, HBs⟩ := HOx.out.base HN.out HZ.out HXx.out.bx.lt
                    have HBS := Lib.hid HBs
                    clear HBs
                    have HRA : Hid (World.ownsRow (World.alloc _ (.cells #[.int .i64 0, .int .i64 0, .int .i64 0, .bool false] 42)) bs 42 4 (.slice (some ⟨g, 0, none⟩) n cap) n (fl out)) := Lib.hid (row_alloc HBS.out.1 (.cells #[.int .i64 0, .int .i64 0, .int .i64 0, .bool false] 42))
                    have HLC : Hid (LitC (World.alloc _ (.cells #[.int .i64 0, .int .i64 0, .int .i64 0, .bool false] 42)) _ ⟨0, 0, 0, false⟩) := Lib.hid (LitC.of (Bz.new wx ⟨0, 0, 0, false⟩ 42).bx.at4)
                    have HB1 : Hid (bs ≤ (World.alloc wx (.cells #[.int .i64 0, .int .i64 0, .int .i64 0, .bool false] 42)).heap.size) := Lib.hid (by have := HBS.out.2.2.1; simp; omega)
                    go_wp2_with (at_builtin; refine append_opt _ rfl _ _ 23 rfl bs 42 i0 (.agg #[.int .i64 0, .int .i64 0, .int .i64 0, .bool false]) 4 32 Try.underlying23 HQ.out.1 HQ.out.2.1 HQ.out.2.2.1 HQ.out.2.2.2 rfl (by decide) _ _ _ rfl HRA.out (some ⟨(wx).heap.size, 0, none⟩) 1 1 (fl [⟨0, 0, 0, false⟩]) rfl rfl (fun h => by cases h) (fun ad had => by injection had with had; subst had; exact HLC.out) (fl_one _) hcap1 hcap2 HB1.out ?_)
                    intro v2 W4 o2 g2 _
                    have HD := Lib.hid (app_done (z := ⟨0, 0, 0, false⟩) (HOx.out.alloc (.cells #[.int .i64 0, .int .i64 0, .int .i64 0, .bool false] 42)) HN.out HBS.out.2.1 HBS.out.2.2.2 (HXx.out.keep (Below.heap_alloc _ _ _ HXx.out.bx.lt)) HNE.out o2 g2)
                    clear o2 g2 HRA HLC HB1 HBS
                    obtain ⟨G4, X4, A4, g4, cap4, hv4, hA4, hc4, hm4, hne4, hb4⟩ := HD.out
                    clear HD
                    subst hv4
                    have HA4 := Lib.hid hA4
                    have HG4 := Lib.hid G4.drew
                    have HX4 := Lib.hid (X4.keep (W' := W4.drew) rfl)
                    have hm4' : cap4 ≤ 9223372036854775807 := by unfold maxLen at hm4; omega
                    have hwr : IntKind.i64.wrap ((p : Int) + 1) = (p : Int) + 1 := by rw [IntKind.wrap_i64]; omega
                    have hp0 : (0 : Int) ≤ (p : Int) + 1 := by omega
                    have hp1 : (p : Int) + 1 ≤ (n : Int) + 1 := by omega
                    have hp2 : ((p : Int) + 1).toNat = p + 1 := by omega
                    have hp3 : (p : Int) ≤ (n : Int) + 1 := by omega
                    have hp4 : (0 : Int) ≤ (p : Int) := by omega
                    have hp5 : (p : Int) < (n : Int) + 1 := by omega
                    have hif1 : (if cap4 = p + 1 then A4 else Option.map (fun x => x.add ((p + 1) * 4)) A4) = from' A4 cap4 (p + 1) := rfl
                    have hif2 : (if cap4 = p then A4 else Option.map (fun x => x.add (p * 4)) A4) = from' A4 cap4 p := rfl
                    clear hA4 hm4 G4 X4
                    go_wp2_with fail
                    go_region_held3 (fun w' => True) (trivial)
                      (first
                        | (refine step_room_a rfl _ _ _ _ rfl 42 Try.underlying23 infoS4 w A4 g4 HA4.out n cap4 p out ⟨0, 0, 0, false⟩ HG4.out HN.out hp (n - p) _ (n + 1 - p) _ rfl rfl rfl rfl ?_; intro w5 hG5 hO5)
                        | (refine step_room_a rfl _ _ _ _ rfl 42 Try.underlying23 infoS4 w A4 g4 HA4.out n cap4 p out ⟨0, 0, 0, false⟩ HG4.out HN.out hp (n + 1 - (p + 1)) _ (n + 1 - p) _ rfl rfl HSUB.out rfl ?_; intro w5 hG5 hO5))
                    have HG5 := Lib.hid hG5
                    have HX5 := Lib.hid (HX4.out.keep (hO5.block s HX4.out.bx.lt (fun e => hne4 e.symm)))
                    have HL5 := Lib.hid ((room_len out ⟨0, 0, 0, false⟩ p (by have := HN.out; omega)).trans (congrArg (· + 1) HN.out))
                    have hA4 := HA4.out
                    clear hG5 hO5 HA4 HG4 HX4 hif1 hif2 hwr
                    subst hA4
                    obtain ⟨⟨q0, q1, q2, q3⟩, hfz⟩ := HG5.out.cells (p := p) HL5.out (by omega)
                    have r0 := hfz (p * 4)
                    have r1 := hfz (p * 4 + 1)
                    have r2 := hfz (p * 4 + 2)
                    have r3 := hfz (p * 4 + 3)
                    obtain ⟨z0, z1, z2, z3⟩ := HX5.out.bx.at4
                    simp only at q0 q1 q2 q3 z0 z1 z2 z3
                    clear hfz
                    generalize (room out ⟨0, 0, 0, false⟩ p)[p]! = oc at q0 q1 q2 q3
                    go_wp2_with fail
                    go_roundw
                    case rel => exact ⟨i + 1, ins out p ⟨f, kn, va, de⟩, by omega, by go_num, Lib.hid (HG5.out.put HN.out hp ⟨f, kn, va, de⟩), HNE2, Lib.hid (fun h => absurd h (ins_ne _ _ _))⟩
                    case measure => simp [intOf]; omega
                  · have HEQ3 := Lib.hid (US1.out (HEQ2.out.1 rfl))
                    go_wp2_with fail
                    go_quiet_grown (fail)
                    have HOx := Lib.hid (HO8.out.more (Gr.below ⟨nq, osq, rfl⟩ : Below w8.heap.size w8 (grow (w8.drewN nq) osq)))
                    clear a0 a1 a2 a3 e0 e1 e2 e3 HE HG HO8 HX8 mixed
                    generalize grow (w8.drewN nq) osq = wx at *
                    go_wp2_with fail
                    go_roundw
                    case rel => exact ⟨i + 1, out, by omega, by go_num, HOx, HEQ3, HZ⟩
                    case measure => simp [intOf]; omega
              · have hd1 : decide ((p : Int) < (n : Int)) = false := decide_eq_false (by omega)
                have HNE2 := Lib.hid (UP.out p hp HLT.out (fun h => absurd h hpn) (fun h => absurd h hpn))
                go_wp2_with fail
                go_quiet (fail)
                have HO7 := Lib.hid (HOy.out.more (below_dN (Below.refl _ _) nq))
                have HX7 := Lib.hid (HXy.out.below (below_dN (Below.refl _ _) nq))
                clear HOy HXy
                generalize wr.drewN nq = w7 at *
                go_wp2_with fail
                go_quiet (fail)
                have HOx := Lib.hid (HO7.out.more (below_dN (Below.refl _ _) nq))
                have HXx := Lib.hid (HX7.out.below (below_dN (Below.refl _ _) nq))
                clear HO7 HX7
                generalize w7.drewN nq = wx at *
                obtain ⟨bs, HBs⟩ := HOx.out.base HN.out HZ.out HXx.out.bx.lt
                have HBS := Lib.hid HBs
                clear HBs
                have HRA : Hid (World.ownsRow (World.alloc _ (.cells #[.int .i64 0, .int .i64 0, .int .i64 0, .bool false] 42)) bs 42 4 (.slice A n cap) n (fl out)) := Lib.hid (row_alloc HBS.out.1 (.cells #[.int .i64 0, .int .i64 0, .int .i64 0, .bool false] 42))
                have HLC : Hid (LitC (World.alloc _ (.cells #[.int .i64 0, .int .i64 0, .int .i64 0, .bool false] 42)) _ ⟨0, 0, 0, false⟩) := Lib.hid (LitC.of (Bz.new wx ⟨0, 0, 0, false⟩ 42).bx.at4)
                have HB1 : Hid (bs ≤ (World.alloc wx (.cells #[.int .i64 0, .int .i64 0, .int .i64 0, .bool false] 42)).heap.size) := Lib.hid (by have := HBS.out.2.2.1; simp; omega)
                go_wp2_with (at_builtin; refine append_opt _ rfl _ _ 23 rfl bs 42 i0 (.agg #[.int .i64 0, .int .i64 0, .int .i64 0, .bool false]) 4 32 Try.underlying23 HQ.out.1 HQ.out.2.1 HQ.out.2.2.1 HQ.out.2.2.2 rfl (by decide) _ _ _ rfl HRA.out (some ⟨(wx).heap.size, 0, none⟩) 1 1 (fl [⟨0, 0, 0, false⟩]) rfl rfl (fun h => by cases h) (fun ad had => by injection had with had; subst had; exact HLC.out) (fl_one _) hcap1 hcap2 HB1.out ?_)
                intro v2 W4 o2 g2 _
                have HD := Lib.hid (app_done (z := ⟨0, 0, 0, false⟩) (HOx.out.alloc (.cells #[.int .i64 0, .int .i64 0, .int .i64 0, .bool false] 42)) HN.out HBS.out.2.1 HBS.out.2.2.2 (HXx.out.keep (Below.heap_alloc _ _ _ HXx.out.bx.lt)) HNE.out o2 g2)
                clear o2 g2 HRA HLC HB1 HBS
                obtain ⟨G4, X4, A4, g4, cap4, hv4, hA4, hc4, hm4, hne4, hb4⟩ := HD.out
                clear HD
                subst hv4
                have HA4 := Lib.hid hA4
                have HG4 := Lib.hid G4.drew
                have HX4 := Lib.hid (X4.keep (W' := W4.drew) rfl)
                have hm4' : cap4 ≤ 9223372036854775807 := by unfold maxLen at hm4; omega
                have hwr : IntKind.i64.wrap ((p : Int) + 1) = (p : Int) + 1 := by rw [IntKind.wrap_i64]; omega
                have hp0 : (0 : Int) ≤ (p : Int) + 1 := by omega
                have hp1 : (p : Int) + 1 ≤ (n : Int) + 1 := by omega
                have hp2 : ((p : Int) + 1).toNat = p + 1 := by omega
                have hp3 : (p : Int) ≤ (n : Int) + 1 := by omega
                have hp4 : (0 : Int) ≤ (p : Int) := by omega
                have hp5 : (p : Int) < (n : Int) + 1 := by omega
                have hif1 : (if cap4 = p + 1 then A4 else Option.map (fun x => x.add ((p + 1) * 4)) A4) = from' A4 cap4 (p + 1) := rfl
                have hif2 : (if cap4 = p then A4 else Option.map (fun x => x.add (p * 4)) A4) = from' A4 cap4 p := rfl
                clear hA4 hm4 G4 X4
                go_wp2_with fail
                go_region_held3 (fun w' => True) (trivial)
                  (first
                    | (refine step_room_a rfl _ _ _ _ rfl 42 Try.underlying23 infoS4 w A4 g4 HA4.out n cap4 p out ⟨0, 0, 0, false⟩ HG4.out HN.out hp (n - p) _ (n + 1 - p) _ rfl rfl rfl rfl ?_; intro w5 hG5 hO5)
                    | (refine step_room_a rfl _ _ _ _ rfl 42 Try.underlying23 infoS4 w A4 g4 HA4.out n cap4 p out ⟨0, 0, 0, false⟩ HG4.out HN.out hp (n + 1 - (p + 1)) _ (n + 1 - p) _ rfl rfl HSUB.out rfl ?_; intro w5 hG5 hO5))
                have HG5 := Lib.hid hG5
                have HX5 := Lib.hid (HX4.out.keep (hO5.block s HX4.out.bx.lt (fun e => hne4 e.symm)))
                have HL5 := Lib.hid ((room_len out ⟨0, 0, 0, false⟩ p (by have := HN.out; omega)).trans (congrArg (· + 1) HN.out))
                have hA4 := HA4.out
                clear hG5 hO5 HA4 HG4 HX4 hif1 hif2 hwr
                subst hA4
                obtain ⟨⟨q0, q1, q2, q3⟩, hfz⟩ := HG5.out.cells (p := p) HL5.out (by omega)
                have r0 := hfz (p * 4)
                have r1 := hfz (p * 4 + 1)
                have r2 := hfz (p * 4 + 2)
                have r3 := hfz (p * 4 + 3)
                obtain ⟨z0, z1, z2, z3⟩ := HX5.out.bx.at4
                simp only at q0 q1 q2 q3 z0 z1 z2 z3
                clear hfz
                generalize (room out ⟨0, 0, 0, false⟩ p)[p]! = oc at q0 q1 q2 q3
                go_wp2_with fail
                go_roundw
                case rel => exact ⟨i + 1, ins out p ⟨f, kn, va, de⟩, by omega, by go_num, Lib.hid (HG5.out.put HN.out hp ⟨f, kn, va, de⟩), HNE2, Lib.hid (fun h => absurd h (ins_ne _ _ _))⟩
                case measure => simp [intOf]; omega
        · have hd0 : decide ((i : Int) < (S : Int)) = false := decide_eq_false (by omega)
          have EU := Lib.hid (show out = unionL l m from UnI.done (by
            have h3 := HU.out
            rwa [show i = l.length + m.length by have := LEN.out; rw [List.length_append] at this; omega] at h3))
          have HOB := Lib.hid HO.out.below
          have HOD := Lib.hid HO.out.done
          obtain ⟨A, cap, hv, _⟩ := HO.out.form
          subst hv
          clear HU HO HZ
          rw [← EU.out] at E0
          by_cases h9 : 1024 < out.length
          · have EE := Lib.hid (show mrgE l m = 3 by rw [E0.out]; exact if_pos h9)
            have t9 : decide ((1024 : Int) < (out.length : Int)) = true := decide_eq_true (by omega)
            clear E0
            go_wp2_with fail
            go_ret2
            exact mrg_bad (by decide) EE.out HOB.out
          · have EE := Lib.hid (show mrgE l m = 0 by rw [E0.out]; exact if_neg h9)
            have t9 : decide ((1024 : Int) < (out.length : Int)) = false := decide_eq_false (by omega)
            clear E0
            go_wp2_with fail
            go_ret2
            have EL : mrgL l m = out := by unfold mrgL; rw [if_pos EE.out, EU.out]
            obtain ⟨a', c', he, h, hb⟩ := HOD.out
            injection he with he
            injection he with q1 q2 q3
            subst q1 q3
            unfold MrgR
            rw [EL, EE.out]
            exact ⟨_, _, rfl, h, hb⟩
    · have EE := Lib.hid (show mrgE l m = valE m by unfold mrgE; rw [if_neg (by simp [h1]), if_pos h2])
      have t0 : (valE m != 0) = true := by simpa using h2
      have H2 := Lib.hid h2
      generalize valE m = c at *
      clear h1 h2
      go_enter Try.func26, Try.ntmps26
      go_wp2_with fail
      refine C1.out.mono ?_
      rintro e w1 ⟨rfl, b1⟩
      have HB1 := Lib.hid (HB.out.more b1)
      have B1 := Lib.hid b1
      clear b1 HA HB C1
      go_wp2_with fail
      refine (C2.out w1 HB1.out).mono ?_
      rintro e w2 ⟨rfl, b2⟩
      have B2 := Lib.hid (B1.out.trans (b2.mono B1.out.size))
      clear b2
      go_wp2_with fail
      go_ret2
      exact mrg_bad H2.out EE.out B2.out
  · have EE := Lib.hid (show mrgE l m = valE l by unfold mrgE; rw [if_pos h1])
    have t0 : (valE l != 0) = true := by simpa using h1
    have H1 := Lib.hid h1
    generalize valE l = c at *
    clear h1
    go_enter Try.func26, Try.ntmps26
    go_wp2_with fail
    refine C1.out.mono ?_
    rintro e w1 ⟨rfl, b1⟩
    have B1 := Lib.hid b1
    clear b1 HA HB
    go_wp2_with fail
    go_ret2
    exact mrg_bad H1.out EE.out B1.out
end Go.Proofs.Ytdpgmjmmnjbbiaa.Tl
