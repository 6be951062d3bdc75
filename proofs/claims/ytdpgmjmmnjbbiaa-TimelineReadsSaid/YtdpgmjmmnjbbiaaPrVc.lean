/-
  Layer 6 (timeline): the contract of the reference's in. Condition: the list reads as changes.
-/
import Derived.Test.YtdpgmjmmnjbbiaaPrVb
namespace Go.Proofs.Ytdpgmjmmnjbbiaa.Tl
open Go Go.RowKit Go.Lib Go.Sort Go.Shelf Go.Proofs Go.Proofs.Ytdpgmjmmnjbbiaa Go.Proofs.Ytdpgmjmmnjbbiaa.Tp
set_option linter.unusedVariables false

theorem app_done2 {w0 W W4 : World} {A : Option Addr} {n cap bs : Nat} {l : List Chg} {z : Chg} {v2 : Value} (h : OwnG w0 (.slice A n cap) l W) (hn : l.length = n) (hb : w0.heap.size ≤ bs)
    (o2 : W4.ownsRow bs 42 4 v2 (n + 1) (fl l ++ fl [z])) (g2 : W.grownBy W4 (Value.slice A n cap).ownBlock) :
    OwnG w0 v2 (l ++ [z]) W4 ∧ ∃ A4 g4 cap4, v2 = .slice A4 (n + 1) cap4 ∧ A4 = some ⟨g4, 0, none⟩ ∧ n + 1 ≤ cap4 ∧ cap4 ≤ maxLen ∧ w0.heap.size ≤ g4 := by
  refine ⟨OwnG.grown (m := [z]) h (by rw [hn]; exact own_weak o2 hb) g2, ?_⟩
  rcases o2.2 with ⟨_, e⟩ | ⟨g, cap', cur, rfl, h1, h2, h3, h4, h5, h6⟩
  · omega
  · exact ⟨_, g, cap', rfl, rfl, h3, h4, by omega⟩
def InR (l : List Chg) (w : World) (e : Ending) (w' : World) : Prop := ∃ a cap, e = .returned (.slice a l.length cap) ∧ OwnA l w w' a cap ∧ Below w.heap.size w w'
set_option maxRecDepth 100000 in
set_option maxHeartbeats 16000000 in
theorem rin_some (x : Addr) (ln ca : Nat) (cs : List Chg) (k : Int) (hn1 : ln ≤ 1024) (w : World) (ha : Lst w (some x) ln ca cs) :
    Calls Try.prog 35 #[.slice (some x) ln ca, .int .i64 k] w (InR (inL cs k) w) := by
  have HA := Lib.hid ha
  have LEN := Lib.hid ha.1.1
  clear ha
  obtain ⟨i0, hi0, hz0, hz1, hz2⟩ := info4
  have HQ := Lib.hid (And.intro hi0 (And.intro hz0 (And.intro hz1 hz2)))
  clear hi0 hz0 hz1 hz2
  have AJ : Hid (∀ W, Below w.heap.size w W → ∀ j, j < ln → At4 W (x.add (j * 4)) cs[j]!) := Lib.hid (fun W hW j hj => by
    obtain ⟨y, hy, _, hc⟩ := (HA.out.more hW).1.2 (by omega)
    injection hy with hy; subst hy; exact hc j hj)
  have CC := Lib.hid (fun i (hi : i < ln) W (hW : Below w.heap.size w W) => rcount_any x ln ca cs i hi (by omega) k W (HA.out.more hW).1)
  unfold CntR at CC
  go_enter Try.func35, Try.ntmps35
  go_wp2_with fail
  go_loopw [5, 6] (fun v z wr => ∃ (i : Nat) (out : List Chg), i ≤ ln ∧ z = .int .i64 i ∧ Hid (OwnG w v out wr) ∧ Hid (InI cs k i out) ∧ Hid (out = [] → v = .slice none 0 0)) (fun _ z _ => ln - (intOf z).toNat)
  case atStart => exact ⟨0, [], by omega, rfl, Lib.hid (OwnG.nil w), Lib.hid (InI.start _ _), Lib.hid fun _ => rfl⟩
  case round =>
    obtain ⟨i, out, hi, rfl, HO, HU, HZ⟩ := hrel
    by_cases hlt : i < ln
    · have hd0 : decide ((i : Int) < (ln : Int)) = true := decide_eq_true (by omega)
      have i0' : (0 : Int) ≤ (i : Int) := by omega
      have i1 : (i : Int) < (ln : Int) := by omega
      have hil : i < cs.length := by have := LEN.out; omega
      have he : cs[i]! = cs[i] := getElem!_pos cs i hil
      have UK := Lib.hid (fun hc => HU.out.skip hil hc)
      have US := Lib.hid (fun hc p hp he => HU.out.same hil hc p hp he)
      have UP := Lib.hid (fun hc p hp h1 h2 he => HU.out.put hil hc p hp h1 h2 he)
      have hol : out.length ≤ 2048 := by have := HU.out.1; omega
      have AI := Lib.hid (fun W hW => AJ.out W hW i hlt)
      have CX := Lib.hid (CC.out i hlt)
      rw [← he] at UK US UP
      clear he hil HU
      generalize cs[i]! = c at *
      obtain ⟨f, kn, va, de⟩ := c
      simp only at UK US UP
      obtain ⟨a0, a1, a2, a3⟩ := AI.out _ HO.out.below
      simp only at a0 a1 a2 a3
      cases de
      · go_wp2_with fail
        refine (CX.out _ HO.out.below).mono ?_
        rintro e w1 ⟨r, rfl, hrc, b1⟩
        have HO1 := Lib.hid (HO.out.more b1)
        have HRC := Lib.hid hrc
        clear a0 a1 a2 a3 hrc b1 HO
        cases r
        · have HNE := Lib.hid (UK.out (fun h => by have := HRC.out.2 h.2; cases this))
          go_wp2_with fail
          go_roundw
          case rel => exact ⟨i + 1, out, by omega, by go_num, HO1, HNE, HZ⟩
          case measure => simp [intOf]; omega
        · have HCT := Lib.hid (HRC.out.1 rfl)
          have US2 := Lib.hid (US.out (by first | exact ⟨rfl, HCT.out⟩ | exact ⟨trivial, HCT.out⟩ | exact HCT.out))
          have UP2 := Lib.hid (UP.out (by first | exact ⟨rfl, HCT.out⟩ | exact ⟨trivial, HCT.out⟩ | exact HCT.out))
          have HPOS := Lib.hid (show ∀ W, Below w.heap.size w W → W.heap.size - 1 < W.heap.size from fun W hb => by
            obtain ⟨y, _, hy, _⟩ := HA.out.1.2 (by omega)
            have := hb.size; omega)
          clear UK US UP HRC HCT CX
          obtain ⟨A, cap, hv, hAf⟩ := HO1.out.form
          subst hv
          have HAF := Lib.hid hAf
          clear hAf
          generalize hn : out.length = n at *
          have HN := Lib.hid hn
          clear hn
          have hcap1 : n + 1 ≤ maxLen := by unfold maxLen; omega
          have hcap2 : (n + 1) * 32 ≤ 140737488355328 := by omega
          have HSUB := Lib.hid (fun p => show n + 1 - (p + 1) = n - p by omega)
          go_wp2_with fail
          go_loopw [7] (fun z wy => ∃ p : Nat, p ≤ n ∧ z = .int .i64 p ∧ Hid (∀ t, t < p → out[t]!.fr < f) ∧ Hid (OwnG w (.slice A n cap) out wy)) (fun z _ => n - (intOf z).toNat)
          case atStart => exact ⟨0, by omega, rfl, Lib.hid (fun t h => absurd h (by omega)), HO1⟩
          case round =>
            clear HO1
            obtain ⟨p, hp, rfl, HLT, HOy⟩ := hrel
            have HSUBP := Lib.hid (HSUB.out p)
            by_cases hpn : p < n
            · have hd1 : decide ((p : Int) < (n : Int)) = true := decide_eq_true (by omega)
              obtain ⟨g, hA2⟩ := HAF.out p hpn
              subst hA2
              have j0 : (0 : Int) ≤ (p : Int) := by omega
              have j1 : (p : Int) < (n : Int) := by omega
              have LS := Lib.hid (fun (h : out[p]!.fr < f) => (show ∀ t, t < p + 1 → out[t]!.fr < f from fun t ht => by
                by_cases e : t = p
                · subst e; exact h
                · exact HLT.out t (by omega)))
              have US3 := Lib.hid (fun he => US2.out p hpn he)
              have UP3 := Lib.hid (fun (h2 : p < n → ¬ out[p]!.fr < f) he => UP2.out p hp HLT.out (fun hp => by have := h2 hp; omega) he)
              obtain ⟨q0, _, _, _⟩ := (HOy.out.cells HN.out hpn).1
              obtain ⟨a0, _, _, _⟩ := AI.out _ HOy.out.below
              simp only at q0 a0
              generalize out[p]!.fr = fo at *
              by_cases h1 : fo < f
              · have t1 : decide (fo < f) = true := decide_eq_true h1
                go_wp2_with fail
                go_quiet (fail)
                go_wp2_with fail
                go_roundw
                case rel => exact ⟨p + 1, by omega, by go_num, Lib.hid (LS.out h1), Lib.hid (HOy.out.more (below_dN (Below.refl _ _) _))⟩
                case measure => simp [intOf]; omega
              · have t1 : decide (fo < f) = false := decide_eq_false h1
                have hnl : ¬ fo < f := by omega
                clear h1
                go_wp2_with fail
                go_quiet (fail)
                have HO7 := Lib.hid (HOy.out.more (below_dN (Below.refl _ _) nq))
                have r0 : (wr.drewN nq).cell? ⟨g, p * 4, none⟩ = some (.int .i64 fo) := by rw [← q0]; rfl
                have r1 : (wr.drewN nq).cell? (x.add (i * 4)) = some (.int .i64 f) := by rw [← a0]; rfl
                clear q0 a0 HOy
                generalize wr.drewN nq = w7 at *
                by_cases he : fo = f
                · have te : (fo == f) = true := by simpa using he
                  have HEQ := Lib.hid (US3.out he)
                  clear he UP3 US3 LS
                  go_wp2_with fail
                  go_quiet (fail)
                  go_wp2_with fail
                  go_roundw
                  case rel => exact ⟨i + 1, out, by omega, by go_num, Lib.hid (HO7.out.more (below_dN (Below.refl _ _) _)), HEQ, HZ⟩
                  case measure => simp [intOf]; omega
                · have te : (fo == f) = false := by simpa using he
                  have HNE2 := Lib.hid (UP3.out (fun _ => hnl) (fun _ => he))
                  clear he UP3 US3 LS
                  go_wp2_with fail
                  go_quiet (fail)
                  have HOx := Lib.hid (HO7.out.more (below_dN (Below.refl _ _) nq))
                  clear r0 r1 HO7
                  generalize w7.drewN nq = wx at *
                  obtain ⟨bs, HBs⟩ := HOx.out.base HN.out HZ.out (show wx.heap.size - 1 < wx.heap.size from HPOS.out _ HOx.out.below)
                  have HBS := Lib.hid HBs
                  clear HBs
                  have HRA : Hid (World.ownsRow (World.alloc _ (.cells #[.int .i64 0, .int .i64 0, .int .i64 0, .bool false] 42)) bs 42 4 (.slice (some ⟨g, 0, none⟩) n cap) n (fl out)) := Lib.hid (row_alloc HBS.out.1 (.cells #[.int .i64 0, .int .i64 0, .int .i64 0, .bool false] 42))
                  have HLC : Hid (LitC (World.alloc _ (.cells #[.int .i64 0, .int .i64 0, .int .i64 0, .bool false] 42)) _ ⟨0, 0, 0, false⟩) := Lib.hid (LitC.of (Bz.new wx ⟨0, 0, 0, false⟩ 42).bx.at4)
                  have HB1 : Hid (bs ≤ (World.alloc wx (.cells #[.int .i64 0, .int .i64 0, .int .i64 0, .bool false] 42)).heap.size) := Lib.hid (by have := HBS.out.2.2.1; simp; omega)
                  go_wp2_with (at_builtin; refine append_opt _ rfl _ _ 23 rfl bs 42 i0 (.agg #[.int .i64 0, .int .i64 0, .int .i64 0, .bool false]) 4 32 Try.underlying23 HQ.out.1 HQ.out.2.1 HQ.out.2.2.1 HQ.out.2.2.2 rfl (by decide) _ _ _ rfl HRA.out (some ⟨(wx).heap.size, 0, none⟩) 1 1 (fl [⟨0, 0, 0, false⟩]) rfl rfl (fun h => by cases h) (fun ad had => by injection had with had; subst had; exact HLC.out) (fl_one _) hcap1 hcap2 HB1.out ?_)
                  intro v2 W4 o2 g2 _
                  have HD := Lib.hid (app_done2 (z := ⟨0, 0, 0, false⟩) (HOx.out.alloc (.cells #[.int .i64 0, .int .i64 0, .int .i64 0, .bool false] 42)) HN.out HBS.out.2.1 o2 g2)
                  clear o2 g2 HRA HLC HB1 HBS
                  obtain ⟨G4, A4, g4, cap4, hv4, hA4, hc4, hm4, hb4⟩ := HD.out
                  clear HD
                  subst hv4
                  have HA4 := Lib.hid hA4
                  have HG4 := Lib.hid G4.drew
                  have hm4' : cap4 ≤ 9223372036854775807 := by unfold maxLen at hm4; omega
                  have hwr : IntKind.i64.wrap ((p : Int) + 1) = (p : Int) + 1 := by rw [IntKind.wrap_i64]; omega
                  have hp0 : (0 : Int) ≤ (p : Int) + 1 := by omega
                  have hp1 : (p : Int) + 1 ≤ (n : Int) + 1 := by omega
                  have hp2 : ((p : Int) + 1).toNat = p + 1 := by omega
                  have hp3 : (p : Int) ≤ (n : Int) + 1 := by omega
                  have hp4 : (0 : Int) ≤ (p : Int) := by omega
                  have hp5 : (p : Int) < (n : Int) + 1 := by omega
                  have hif1 : (if cap4 = p + 1 then A4 else Option.map (fun x => x.add ((p + 1) * 4)) A4) = from' A4 cap4 (p + 1) := rfl
                  have hif2 : (if cap4 = p then A4 else Option.map (fun x => x.add (p * 4)) A4) = from' A4 cap4 p := rfl
                  clear hA4 hm4 G4
                  go_wp2_with fail
                  go_region_held3 (fun w' => True) (trivial)
                    (first
                      | (refine step_room_a rfl _ _ _ _ rfl 42 Try.underlying23 infoS4 w A4 g4 HA4.out n cap4 p out ⟨0, 0, 0, false⟩ HG4.out HN.out hp (n - p) _ (n + 1 - p) _ rfl rfl rfl rfl ?_; intro w5 hG5 hO5)
                      | (refine step_room_a rfl _ _ _ _ rfl 42 Try.underlying23 infoS4 w A4 g4 HA4.out n cap4 p out ⟨0, 0, 0, false⟩ HG4.out HN.out hp (n + 1 - (p + 1)) _ (n + 1 - p) _ rfl rfl HSUB.out rfl ?_; intro w5 hG5 hO5))
                  have HG5 := Lib.hid hG5
                  have CI5 := Lib.hid (AI.out _ hG5.below)
                  have HL5 := Lib.hid ((room_len out ⟨0, 0, 0, false⟩ p (by have := HN.out; omega)).trans (congrArg (· + 1) HN.out))
                  have hA4 := HA4.out
                  clear hG5 hO5 HA4 HG4 hif1 hif2 hwr
                  subst hA4
                  obtain ⟨⟨q0, q1, q2, q3⟩, hfz⟩ := HG5.out.cells (p := p) HL5.out (by omega)
                  have r0 := hfz (p * 4)
                  have r1 := hfz (p * 4 + 1)
                  have r2 := hfz (p * 4 + 2)
                  have r3 := hfz (p * 4 + 3)
                  obtain ⟨z0, z1, z2, z3⟩ := CI5.out
                  simp only at q0 q1 q2 q3 z0 z1 z2 z3
                  clear hfz
                  generalize (room out ⟨0, 0, 0, false⟩ p)[p]! = oc at q0 q1 q2 q3
                  go_wp2_with fail
                  go_roundw
                  case rel => exact ⟨i + 1, ins out p ⟨f, kn, va, false⟩, by omega, by go_num, Lib.hid (HG5.out.put HN.out hp ⟨f, kn, va, false⟩), HNE2, Lib.hid (fun h => absurd h (ins_ne _ _ _))⟩
                  case measure => simp [intOf]; omega
            · have hd1 : decide ((p : Int) < (n : Int)) = false := decide_eq_false (by omega)
              have HNE2 := Lib.hid (UP2.out p hp HLT.out (fun h => absurd h hpn) (fun h => absurd h hpn))
              go_wp2_with fail
              go_quiet (fail)
              have HO7 := Lib.hid (HOy.out.more (below_dN (Below.refl _ _) nq))
              clear HOy
              generalize wr.drewN nq = w7 at *
              go_wp2_with fail
              go_quiet (fail)
              have HOx := Lib.hid (HO7.out.more (below_dN (Below.refl _ _) nq))
              clear HO7
              generalize w7.drewN nq = wx at *
              obtain ⟨bs, HBs⟩ := HOx.out.base HN.out HZ.out (show wx.heap.size - 1 < wx.heap.size from HPOS.out _ HOx.out.below)
              have HBS := Lib.hid HBs
              clear HBs
              have HRA : Hid (World.ownsRow (World.alloc _ (.cells #[.int .i64 0, .int .i64 0, .int .i64 0, .bool false] 42)) bs 42 4 (.slice A n cap) n (fl out)) := Lib.hid (row_alloc HBS.out.1 (.cells #[.int .i64 0, .int .i64 0, .int .i64 0, .bool false] 42))
              have HLC : Hid (LitC (World.alloc _ (.cells #[.int .i64 0, .int .i64 0, .int .i64 0, .bool false] 42)) _ ⟨0, 0, 0, false⟩) := Lib.hid (LitC.of (Bz.new wx ⟨0, 0, 0, false⟩ 42).bx.at4)
              have HB1 : Hid (bs ≤ (World.alloc wx (.cells #[.int .i64 0, .int .i64 0, .int .i64 0, .bool false] 42)).heap.size) := Lib.hid (by have := HBS.out.2.2.1; simp; omega)
              go_wp2_with (at_builtin; refine append_opt _ rfl _ _ 23 rfl bs 42 i0 (.agg #[.int .i64 0, .int .i64 0, .int .i64 0, .bool false]) 4 32 Try.underlying23 HQ.out.1 HQ.out.2.1 HQ.out.2.2.1 HQ.out.2.2.2 rfl (by decide) _ _ _ rfl HRA.out (some ⟨(wx).heap.size, 0, none⟩) 1 1 (fl [⟨0, 0, 0, false⟩]) rfl rfl (fun h => by cases h) (fun ad had => by injection had with had; subst had; exact HLC.out) (fl_one _) hcap1 hcap2 HB1.out ?_)
              intro v2 W4 o2 g2 _
              have HD := Lib.hid (app_done2 (z := ⟨0, 0, 0, false⟩) (HOx.out.alloc (.cells #[.int .i64 0, .int .i64 0, .int .i64 0, .bool false] 42)) HN.out HBS.out.2.1 o2 g2)
              clear o2 g2 HRA HLC HB1 HBS
              obtain ⟨G4, A4, g4, cap4, hv4, hA4, hc4, hm4, hb4⟩ := HD.out
              clear HD
              subst hv4
              have HA4 := Lib.hid hA4
              have HG4 := Lib.hid G4.drew
              have hm4' : cap4 ≤ 9223372036854775807 := by unfold maxLen at hm4; omega
              have hwr : IntKind.i64.wrap ((p : Int) + 1) = (p : Int) + 1 := by rw [IntKind.wrap_i64]; omega
              have hp0 : (0 : Int) ≤ (p : Int) + 1 := by omega
              have hp1 : (p : Int) + 1 ≤ (n : Int) + 1 := by omega
              have hp2 : ((p : Int) + 1).toNat = p + 1 := by omega
              have hp3 : (p : Int) ≤ (n : Int) + 1 := by omega
              have hp4 : (0 : Int) ≤ (p : Int) := by omega
              have hp5 : (p : Int) < (n : Int) + 1 := by omega
              have hif1 : (if cap4 = p + 1 then A4 else Option.map (fun x => x.add ((p + 1) * 4)) A4) = from' A4 cap4 (p + 1) := rfl
              have hif2 : (if cap4 = p then A4 else Option.map (fun x => x.add (p * 4)) A4) = from' A4 cap4 p := rfl
              clear hA4 hm4 G4
              go_wp2_with fail
              go_region_held3 (fun w' => True) (trivial)
                (first
                  | (refine step_room_a rfl _ _ _ _ rfl 42 Try.underlying23 infoS4 w A4 g4 HA4.out n cap4 p out ⟨0, 0, 0, false⟩ HG4.out HN.out hp (n - p) _ (n + 1 - p) _ rfl rfl rfl rfl ?_; intro w5 hG5 hO5)
                  | (refine step_room_a rfl _ _ _ _ rfl 42 Try.underlying23 infoS4 w A4 g4 HA4.out n cap4 p out ⟨0, 0, 0, false⟩ HG4.out HN.out hp (n + 1 - (p + 1)) _ (n + 1 - p) _ rfl rfl HSUB.out rfl ?_; intro w5 hG5 hO5))
              have HG5 := Lib.hid hG5
              have CI5 := Lib.hid (AI.out _ hG5.below)
              have HL5 := Lib.hid ((room_len out ⟨0, 0, 0, false⟩ p (by have := HN.out; omega)).trans (congrArg (· + 1) HN.out))
              have hA4 := HA4.out
              clear hG5 hO5 HA4 HG4 hif1 hif2 hwr
              subst hA4
              obtain ⟨⟨q0, q1, q2, q3⟩, hfz⟩ := HG5.out.cells (p := p) HL5.out (by omega)
              have r0 := hfz (p * 4)
              have r1 := hfz (p * 4 + 1)
              have r2 := hfz (p * 4 + 2)
              have r3 := hfz (p * 4 + 3)
              obtain ⟨z0, z1, z2, z3⟩ := CI5.out
              simp only at q0 q1 q2 q3 z0 z1 z2 z3
              clear hfz
              generalize (room out ⟨0, 0, 0, false⟩ p)[p]! = oc at q0 q1 q2 q3
              go_wp2_with fail
              go_roundw
              case rel => exact ⟨i + 1, ins out p ⟨f, kn, va, false⟩, by omega, by go_num, Lib.hid (HG5.out.put HN.out hp ⟨f, kn, va, false⟩), HNE2, Lib.hid (fun h => absurd h (ins_ne _ _ _))⟩
              case measure => simp [intOf]; omega
      · have HNE := Lib.hid (UK.out (fun h => by have := h.1; cases this))
        go_wp2_with fail
        go_roundw
        case rel => exact ⟨i + 1, out, by omega, by go_num, HO, HNE, HZ⟩
        case measure => simp [intOf]; omega
    · have hd0 : decide ((i : Int) < (ln : Int)) = false := decide_eq_false (by omega)
      have EU := Lib.hid (show out = inL cs k from InI.done (by
        have h3 := HU.out
        rwa [show i = cs.length by have := LEN.out; omega] at h3))
      have HOD := Lib.hid HO.out.done
      obtain ⟨A, cap, hv, _⟩ := HO.out.form
      subst hv
      clear HU HO HZ
      go_wp2_with fail
      go_ret
      obtain ⟨a', c', he, h, hb⟩ := HOD.out
      injection he with he
      injection he with q1 q2 q3
      subst q1 q3
      unfold InR
      rw [← EU.out]
      exact ⟨_, _, rfl, h, hb⟩
theorem rin_none (cs : List Chg) (k : Int) (w : World) (h : cs.length = 0) :
    Calls Try.prog 35 #[.slice none 0 0, .int .i64 k] w (InR (inL cs k) w) := by
  have E := Lib.hid (show inL cs k = [] from List.length_eq_zero_iff.1 (by have := inL_length cs k; omega))
  clear h
  go_enter Try.func35, Try.ntmps35
  go_wp2_with fail
  go_loopw [5, 6] (fun v z wr => v = .slice none 0 0 ∧ z = .int .i64 0 ∧ Hid (wr = w)) (fun _ _ _ => 0)
  case atStart => exact ⟨rfl, rfl, Lib.hid rfl⟩
  case round =>
    obtain ⟨rfl, rfl, HW⟩ := hrel
    have hd0 : decide ((0 : Int) < 0) = false := by decide
    go_wp2_with fail
    go_ret
    exact ⟨none, 0, by rw [E.out]; rfl, .inl ⟨rfl, E.out, rfl⟩, by rw [HW.out]; exact Below.refl _ _⟩
theorem rin_any (a : Option Addr) (ln ca : Nat) (cs : List Chg) (k : Int) (hn1 : ln ≤ 1024) (w : World) (h : Lst w a ln ca cs) :
    Calls Try.prog 35 #[.slice a ln ca, .int .i64 k] w (InR (inL cs k) w) := by
  cases a with
  | some x => exact rin_some x ln ca cs k hn1 w h
  | none =>
    obtain ⟨e1, e2⟩ := h.2.1 rfl
    have h3 := h.1.1
    subst e1 e2
    exact rin_none cs k w h3
end Go.Proofs.Ytdpgmjmmnjbbiaa.Tl
