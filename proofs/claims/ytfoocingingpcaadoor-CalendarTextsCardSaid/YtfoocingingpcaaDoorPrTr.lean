/-
  Layer 3 (calendar): the contract of the reference's Parse. No condition.
-/
import Derived.Test.YtfoocingingpcaaDoorPrTr0
namespace Go.Proofs.YtfoocingingpcaaDoor
open Go Go.RowKit Go.Lib

set_option maxRecDepth 100000 in
set_option maxHeartbeats 4000000 in
theorem rparse_any (s : ByteArray) (w : World) :
    Calls Tryd.prog 42 #[.string s] w (ParR s w) := by
  by_cases h10 : s.size = 10
  · obtain ⟨b0, b1, b2, b3, b4, b5, b6, b7, b8, b9, hb⟩ := ten_of h10
    obtain ⟨x1, x2, x3⟩ := ext_parts hb
    have hl : s.data.toList = [b0, b1, b2, b3, b4, b5, b6, b7, b8, b9] := by rw [hb]
    have HX := Lib.hid (And.intro hl (And.intro x1 (And.intro x2 x3)))
    clear hl x1 x2 x3
    have HB := Lib.hid hb
    clear hb
    have e1 : (s.extract 0 4).size = 4 := by simp [h10]
    have e2 : (s.extract 5 7).size = 2 := by simp [h10]
    have e3 : (s.extract 8 10).size = 2 := by simp [h10]
    go_enter Tryd.func42, Tryd.ntmps42
    go_wp2_with fail
    go_region_with fail
    go_simp
    go_wp2_with fail
    have HP := PI.start w (s.extract 0 4) (s.extract 5 7) (s.extract 8 10)
    generalize ((w.alloc (.cells #[.int .i64 0, .int .i64 0, .int .i64 0] 70)).alloc (.cells #[.string (s.extract 0 4), .string (s.extract 5 7), .string (s.extract 8 10)] 9)).drew = w0 at HP
    go_loopw [22] (fun z wr => (z = .int .i64 0 ∧ PI w (s.extract 0 4) (s.extract 5 7) (s.extract 8 10) 0 0 0 wr) ∨ (z = .int .i64 1 ∧ (AllD [b0, b1, b2, b3] 4) ∧ PI w (s.extract 0 4) (s.extract 5 7) (s.extract 8 10) (pvl [b0, b1, b2, b3] 4) 0 0 wr) ∨ (z = .int .i64 2 ∧ (AllD [b0, b1, b2, b3] 4 ∧ AllD [b5, b6] 2) ∧ PI w (s.extract 0 4) (s.extract 5 7) (s.extract 8 10) (pvl [b0, b1, b2, b3] 4) (pvl [b5, b6] 2) 0 wr) ∨ (z = .int .i64 3 ∧ (AllD [b0, b1, b2, b3] 4 ∧ AllD [b5, b6] 2 ∧ AllD [b8, b9] 2) ∧ PI w (s.extract 0 4) (s.extract 5 7) (s.extract 8 10) (pvl [b0, b1, b2, b3] 4) (pvl [b5, b6] 2) (pvl [b8, b9] 2) wr)) (fun z _ => 3 - (intOf z).toNat)
    case atStart => exact .inl ⟨rfl, HP⟩
    case round =>
      clear HP
      rcases hrel with ⟨rfl, hP⟩ | ⟨rfl, hG, hP⟩ | ⟨rfl, hG, hP⟩ | ⟨rfl, hG, hP⟩
      · obtain ⟨h0, h1, h2, z0, z1, z2, q0, q1, q2, hbel⟩ := hP
        have hP : PI w (s.extract 0 4) (s.extract 5 7) (s.extract 8 10) 0 0 0 wr := PI.mk h0 h1 h2 z0 z1 z2 q0 q1 q2 hbel
        have ho : decide ((0 : Int) < 3) = true := by decide
        go_wp2_with fail
        go_loopw [7] (fun z wx => ∃ j : Nat, j ≤ 4 ∧ z = .int .i64 j ∧ AllD [b0, b1, b2, b3] j ∧ PI w (s.extract 0 4) (s.extract 5 7) (s.extract 8 10) (pvl [b0, b1, b2, b3] j) 0 0 wx) (fun z _ => 4 - (intOf z).toNat)
        case atStart => exact ⟨0, by omega, rfl, (fun c h => by simp at h), hP⟩
        case round =>
          clear hP h0 h1 h2 z0 z1 z2 q0 q1 q2 hbel
          obtain ⟨j, hj, rfl, hA, hP⟩ := hrel
          have HP := Lib.hid hP
          obtain ⟨h0, h1, h2, z0, z1, z2, q0, q1, q2, hbel⟩ := hP
          have HA := Lib.hid hA
          have HBL := Lib.hid hbel
          by_cases hlt : j < 4
          · have hlt0 : decide ((j : Int) < 4) = true := decide_eq_true (by omega)
            obtain ⟨c, hc⟩ : ∃ c, (s.extract 0 4)[j]'(by omega) = c := ⟨_, rfl⟩
            have hLc : [b0, b1, b2, b3][j]? = some c := by rw [idx_of HX.out.2.1 j (by omega), hc]
            have he : ∀ h, (s.extract 0 4)[j]'h = c := fun _ => hc
            have HLC := Lib.hid hLc
            obtain ⟨p0, p1⟩ := pvl_999 (L := [b0, b1, b2, b3]) (j := j) (by simp; omega) (by omega) hA
            have HE := Lib.hid (pvl_snoc hLc)
            obtain ⟨N, hN⟩ : ∃ N, pvl [b0, b1, b2, b3] j = N := ⟨_, rfl⟩
            rw [hN] at p0 p1 h0
            have HN := Lib.hid hN
            have hc8 : c.toNat < 256 := c.toNat_lt
            clear hc hLc hA hbel hN
            by_cases d0 : 48 ≤ c.toNat
            · have g1 : decide ((c.toNat : Int) < 48) = false := decide_eq_false (by omega)
              have g1' : decide (c.toNat < 48) = false := decide_eq_false (by omega)
              by_cases d1 : c.toNat ≤ 57
              · have g2 : decide ((57 : Int) < (c.toNat : Int)) = false := decide_eq_false (by omega)
                have g2' : decide (57 < c.toNat) = false := decide_eq_false (by omega)
                have HA' := Lib.hid (allD_snoc HLC.out HA.out ⟨d0, d1⟩)
                go_wp2_with fail
                have g6 : (j : Int) < 4 := by omega
                have g7 : (0 : Int) ≤ (j : Int) := by omega
                have g8 : IntKind.i64.wrap (N * 10) = N * 10 := IntWalk.i64_in _ (by omega)
                have g9 : IntKind.u8.wrap ((c.toNat : Int) - 48) = (c.toNat : Int) - 48 := by simp only [IntKind.wrap, IntKind.signed, IntKind.bits]; simp; omega
                have g10 : IntKind.i64.wrap ((c.toNat : Int) - 48) = (c.toNat : Int) - 48 := IntWalk.i64_in _ (by omega)
                have g11 : IntKind.i64.wrap (N * 10 + ((c.toNat : Int) - 48)) = N * 10 + ((c.toNat : Int) - 48) := IntWalk.i64_in _ (by omega)
                go_region_law fail
                go_simp
                go_wp2_with fail
                go_roundw
                case rel =>
                  refine ⟨j + 1, by omega, by go_num, HA'.out, ?_⟩
                  have hv := HE.out
                  rw [HN.out] at hv
                  have hv' : pvl [b0, b1, b2, b3] (j + 1) = N * 10 + ((c.toNat : Int) - 48) := hv
                  rw [hv']
                  exact (HP.out.drewN _).put0 _
                case measure => simp [intOf]; omega
                case roundEnd =>
                  refine ⟨⟨j + 1, by omega, by go_num, HA'.out, ?_⟩, by simp [intOf]; omega⟩
                  have hv := HE.out
                  rw [HN.out] at hv
                  have hv' : pvl [b0, b1, b2, b3] (j + 1) = N * 10 + ((c.toNat : Int) - 48) := hv
                  rw [hv']
                  exact (HP.out.put0 _).drew
              · have g2 : decide ((57 : Int) < (c.toNat : Int)) = true := decide_eq_true (by omega)
                have g2' : decide (57 < c.toNat) = true := decide_eq_true (by omega)
                have P0 : Hid (PR s.data.toList 0 false) := Lib.hid (pr_bad HX.out.1 (fun y m d hS _ => absurd ((spell_mem hS).1 c (List.mem_of_getElem? HLC.out)) (fun D => d1 D.2)))
                go_wp2_with fail
                go_ret2
                exact ⟨0, false, rfl, P0.out, HBL.out⟩
            · have g1 : decide ((c.toNat : Int) < 48) = true := decide_eq_true (by omega)
              have g1' : decide (c.toNat < 48) = true := decide_eq_true (by omega)
              have P0 : Hid (PR s.data.toList 0 false) := Lib.hid (pr_bad HX.out.1 (fun y m d hS _ => absurd ((spell_mem hS).1 c (List.mem_of_getElem? HLC.out)) (fun D => d0 D.1)))
              go_wp2_with fail
              go_ret2
              exact ⟨0, false, rfl, P0.out, HBL.out⟩
          · obtain rfl : j = 4 := by omega
            have hP := HP.out
            clear hA hbel h0 h1 h2 z0 z1 z2 q0 q1 q2 HP
            go_wp2_with fail
            go_roundw
            case rel => exact .inr (.inl ⟨rfl, HA.out, hP⟩)
            case measure => simp [intOf]
      · obtain ⟨h0, h1, h2, z0, z1, z2, q0, q1, q2, hbel⟩ := hP
        have hP : PI w (s.extract 0 4) (s.extract 5 7) (s.extract 8 10) (pvl [b0, b1, b2, b3] 4) 0 0 wr := PI.mk h0 h1 h2 z0 z1 z2 q0 q1 q2 hbel
        have HG := Lib.hid hG
        clear hG
        have ho : decide ((1 : Int) < 3) = true := by decide
        go_wp2_with fail
        go_loopw [7] (fun z wx => ∃ j : Nat, j ≤ 2 ∧ z = .int .i64 j ∧ AllD [b5, b6] j ∧ PI w (s.extract 0 4) (s.extract 5 7) (s.extract 8 10) (pvl [b0, b1, b2, b3] 4) (pvl [b5, b6] j) 0 wx) (fun z _ => 2 - (intOf z).toNat)
        case atStart => exact ⟨0, by omega, rfl, (fun c h => by simp at h), hP⟩
        case round =>
          clear hP h0 h1 h2 z0 z1 z2 q0 q1 q2 hbel
          obtain ⟨j, hj, rfl, hA, hP⟩ := hrel
          have HP := Lib.hid hP
          obtain ⟨h0, h1, h2, z0, z1, z2, q0, q1, q2, hbel⟩ := hP
          have HA := Lib.hid hA
          have HBL := Lib.hid hbel
          by_cases hlt : j < 2
          · have hlt0 : decide ((j : Int) < 2) = true := decide_eq_true (by omega)
            obtain ⟨c, hc⟩ : ∃ c, (s.extract 5 7)[j]'(by omega) = c := ⟨_, rfl⟩
            have hLc : [b5, b6][j]? = some c := by rw [idx_of HX.out.2.2.1 j (by omega), hc]
            have he : ∀ h, (s.extract 5 7)[j]'h = c := fun _ => hc
            have HLC := Lib.hid hLc
            obtain ⟨p0, p1⟩ := pvl_999 (L := [b5, b6]) (j := j) (by simp; omega) (by omega) hA
            have HE := Lib.hid (pvl_snoc hLc)
            obtain ⟨N, hN⟩ : ∃ N, pvl [b5, b6] j = N := ⟨_, rfl⟩
            rw [hN] at p0 p1 h1
            have HN := Lib.hid hN
            have hc8 : c.toNat < 256 := c.toNat_lt
            clear hc hLc hA hbel hN
            by_cases d0 : 48 ≤ c.toNat
            · have g1 : decide ((c.toNat : Int) < 48) = false := decide_eq_false (by omega)
              have g1' : decide (c.toNat < 48) = false := decide_eq_false (by omega)
              by_cases d1 : c.toNat ≤ 57
              · have g2 : decide ((57 : Int) < (c.toNat : Int)) = false := decide_eq_false (by omega)
                have g2' : decide (57 < c.toNat) = false := decide_eq_false (by omega)
                have HA' := Lib.hid (allD_snoc HLC.out HA.out ⟨d0, d1⟩)
                go_wp2_with fail
                have g6 : (j : Int) < 2 := by omega
                have g7 : (0 : Int) ≤ (j : Int) := by omega
                have g8 : IntKind.i64.wrap (N * 10) = N * 10 := IntWalk.i64_in _ (by omega)
                have g9 : IntKind.u8.wrap ((c.toNat : Int) - 48) = (c.toNat : Int) - 48 := by simp only [IntKind.wrap, IntKind.signed, IntKind.bits]; simp; omega
                have g10 : IntKind.i64.wrap ((c.toNat : Int) - 48) = (c.toNat : Int) - 48 := IntWalk.i64_in _ (by omega)
                have g11 : IntKind.i64.wrap (N * 10 + ((c.toNat : Int) - 48)) = N * 10 + ((c.toNat : Int) - 48) := IntWalk.i64_in _ (by omega)
                go_region_law fail
                go_simp
                go_wp2_with fail
                go_roundw
                case rel =>
                  refine ⟨j + 1, by omega, by go_num, HA'.out, ?_⟩
                  have hv := HE.out
                  rw [HN.out] at hv
                  have hv' : pvl [b5, b6] (j + 1) = N * 10 + ((c.toNat : Int) - 48) := hv
                  rw [hv']
                  exact (HP.out.drewN _).put1 _
                case measure => simp [intOf]; omega
                case roundEnd =>
                  refine ⟨⟨j + 1, by omega, by go_num, HA'.out, ?_⟩, by simp [intOf]; omega⟩
                  have hv := HE.out
                  rw [HN.out] at hv
                  have hv' : pvl [b5, b6] (j + 1) = N * 10 + ((c.toNat : Int) - 48) := hv
                  rw [hv']
                  exact (HP.out.put1 _).drew
              · have g2 : decide ((57 : Int) < (c.toNat : Int)) = true := decide_eq_true (by omega)
                have g2' : decide (57 < c.toNat) = true := decide_eq_true (by omega)
                have P0 : Hid (PR s.data.toList 0 false) := Lib.hid (pr_bad HX.out.1 (fun y m d hS _ => absurd ((spell_mem hS).2.1 c (List.mem_of_getElem? HLC.out)) (fun D => d1 D.2)))
                go_wp2_with fail
                go_ret2
                exact ⟨0, false, rfl, P0.out, HBL.out⟩
            · have g1 : decide ((c.toNat : Int) < 48) = true := decide_eq_true (by omega)
              have g1' : decide (c.toNat < 48) = true := decide_eq_true (by omega)
              have P0 : Hid (PR s.data.toList 0 false) := Lib.hid (pr_bad HX.out.1 (fun y m d hS _ => absurd ((spell_mem hS).2.1 c (List.mem_of_getElem? HLC.out)) (fun D => d0 D.1)))
              go_wp2_with fail
              go_ret2
              exact ⟨0, false, rfl, P0.out, HBL.out⟩
          · obtain rfl : j = 2 := by omega
            have hP := HP.out
            clear hA hbel h0 h1 h2 z0 z1 z2 q0 q1 q2 HP
            go_wp2_with fail
            go_roundw
            case rel => exact .inr (.inr (.inl ⟨rfl, ⟨HG.out, HA.out⟩, hP⟩))
            case measure => simp [intOf]
      · obtain ⟨h0, h1, h2, z0, z1, z2, q0, q1, q2, hbel⟩ := hP
        have hP : PI w (s.extract 0 4) (s.extract 5 7) (s.extract 8 10) (pvl [b0, b1, b2, b3] 4) (pvl [b5, b6] 2) 0 wr := PI.mk h0 h1 h2 z0 z1 z2 q0 q1 q2 hbel
        have HG := Lib.hid hG
        clear hG
        have ho : decide ((2 : Int) < 3) = true := by decide
        go_wp2_with fail
        go_loopw [7] (fun z wx => ∃ j : Nat, j ≤ 2 ∧ z = .int .i64 j ∧ AllD [b8, b9] j ∧ PI w (s.extract 0 4) (s.extract 5 7) (s.extract 8 10) (pvl [b0, b1, b2, b3] 4) (pvl [b5, b6] 2) (pvl [b8, b9] j) wx) (fun z _ => 2 - (intOf z).toNat)
        case atStart => exact ⟨0, by omega, rfl, (fun c h => by simp at h), hP⟩
        case round =>
          clear hP h0 h1 h2 z0 z1 z2 q0 q1 q2 hbel
          obtain ⟨j, hj, rfl, hA, hP⟩ := hrel
          have HP := Lib.hid hP
          obtain ⟨h0, h1, h2, z0, z1, z2, q0, q1, q2, hbel⟩ := hP
          have HA := Lib.hid hA
          have HBL := Lib.hid hbel
          by_cases hlt : j < 2
          · have hlt0 : decide ((j : Int) < 2) = true := decide_eq_true (by omega)
            obtain ⟨c, hc⟩ : ∃ c, (s.extract 8 10)[j]'(by omega) = c := ⟨_, rfl⟩
            have hLc : [b8, b9][j]? = some c := by rw [idx_of HX.out.2.2.2 j (by omega), hc]
            have he : ∀ h, (s.extract 8 10)[j]'h = c := fun _ => hc
            have HLC := Lib.hid hLc
            obtain ⟨p0, p1⟩ := pvl_999 (L := [b8, b9]) (j := j) (by simp; omega) (by omega) hA
            have HE := Lib.hid (pvl_snoc hLc)
            obtain ⟨N, hN⟩ : ∃ N, pvl [b8, b9] j = N := ⟨_, rfl⟩
            rw [hN] at p0 p1 h2
            have HN := Lib.hid hN
            have hc8 : c.toNat < 256 := c.toNat_lt
            clear hc hLc hA hbel hN
            by_cases d0 : 48 ≤ c.toNat
            · have g1 : decide ((c.toNat : Int) < 48) = false := decide_eq_false (by omega)
              have g1' : decide (c.toNat < 48) = false := decide_eq_false (by omega)
              by_cases d1 : c.toNat ≤ 57
              · have g2 : decide ((57 : Int) < (c.toNat : Int)) = false := decide_eq_false (by omega)
                have g2' : decide (57 < c.toNat) = false := decide_eq_false (by omega)
                have HA' := Lib.hid (allD_snoc HLC.out HA.out ⟨d0, d1⟩)
                go_wp2_with fail
                have g6 : (j : Int) < 2 := by omega
                have g7 : (0 : Int) ≤ (j : Int) := by omega
                have g8 : IntKind.i64.wrap (N * 10) = N * 10 := IntWalk.i64_in _ (by omega)
                have g9 : IntKind.u8.wrap ((c.toNat : Int) - 48) = (c.toNat : Int) - 48 := by simp only [IntKind.wrap, IntKind.signed, IntKind.bits]; simp; omega
                have g10 : IntKind.i64.wrap ((c.toNat : Int) - 48) = (c.toNat : Int) - 48 := IntWalk.i64_in _ (by omega)
                have g11 : IntKind.i64.wrap (N * 10 + ((c.toNat : Int) - 48)) = N * 10 + ((c.toNat : Int) - 48) := IntWalk.i64_in _ (by omega)
                go_region_law fail
                go_simp
                go_wp2_with fail
                go_roundw
                case rel =>
                  refine ⟨j + 1, by omega, by go_num, HA'.out, ?_⟩
                  have hv := HE.out
                  rw [HN.out] at hv
                  have hv' : pvl [b8, b9] (j + 1) = N * 10 + ((c.toNat : Int) - 48) := hv
                  rw [hv']
                  exact (HP.out.drewN _).put2 _
                case measure => simp [intOf]; omega
                case roundEnd =>
                  refine ⟨⟨j + 1, by omega, by go_num, HA'.out, ?_⟩, by simp [intOf]; omega⟩
                  have hv := HE.out
                  rw [HN.out] at hv
                  have hv' : pvl [b8, b9] (j + 1) = N * 10 + ((c.toNat : Int) - 48) := hv
                  rw [hv']
                  exact (HP.out.put2 _).drew
              · have g2 : decide ((57 : Int) < (c.toNat : Int)) = true := decide_eq_true (by omega)
                have g2' : decide (57 < c.toNat) = true := decide_eq_true (by omega)
                have P0 : Hid (PR s.data.toList 0 false) := Lib.hid (pr_bad HX.out.1 (fun y m d hS _ => absurd ((spell_mem hS).2.2 c (List.mem_of_getElem? HLC.out)) (fun D => d1 D.2)))
                go_wp2_with fail
                go_ret2
                exact ⟨0, false, rfl, P0.out, HBL.out⟩
            · have g1 : decide ((c.toNat : Int) < 48) = true := decide_eq_true (by omega)
              have g1' : decide (c.toNat < 48) = true := decide_eq_true (by omega)
              have P0 : Hid (PR s.data.toList 0 false) := Lib.hid (pr_bad HX.out.1 (fun y m d hS _ => absurd ((spell_mem hS).2.2 c (List.mem_of_getElem? HLC.out)) (fun D => d0 D.1)))
              go_wp2_with fail
              go_ret2
              exact ⟨0, false, rfl, P0.out, HBL.out⟩
          · obtain rfl : j = 2 := by omega
            have hP := HP.out
            clear hA hbel h0 h1 h2 z0 z1 z2 q0 q1 q2 HP
            go_wp2_with fail
            go_roundw
            case rel => exact .inr (.inr (.inr ⟨rfl, ⟨HG.out.1, HG.out.2, HA.out⟩, hP⟩))
            case measure => simp [intOf]
      · obtain ⟨g0, g1, g2⟩ := hG
        obtain ⟨h0, h1, h2, z0, z1, z2, q0, q1, q2, hbel⟩ := hP
        have hd0 : ∀ c ∈ [b0, b1, b2, b3], Dig c := g0
        have hd1 : ∀ c ∈ [b5, b6], Dig c := g1
        have hd2 : ∀ c ∈ [b8, b9], Dig c := g2
        clear z0 z1 z2 q0 q1 q2 g0 g1 g2
        obtain ⟨Y, hY⟩ : ∃ Y, pvl [b0, b1, b2, b3] 4 = Y := ⟨_, rfl⟩
        obtain ⟨M, hM⟩ : ∃ M, pvl [b5, b6] 2 = M := ⟨_, rfl⟩
        obtain ⟨D, hD⟩ : ∃ D, pvl [b8, b9] 2 = D := ⟨_, rfl⟩
        rw [hY] at h0
        rw [hM] at h1
        rw [hD] at h2
        have SP : Hid (∀ y m d, Spell b0 b1 b2 b3 b4 b5 b6 b7 b8 b9 y m d → y = Y ∧ m = M ∧ d = D ∧ b4 = 45 ∧ b7 = 45) := Lib.hid (fun y m d h => by
          obtain ⟨_, _, _, _, _, _, _, _, f4, f7, r1, r2, r3⟩ := h
          rw [pvl4] at hY
          rw [pvl2] at hM hD
          exact ⟨r1.trans hY, r2.trans hM, r3.trans hD, f4, f7⟩)
        have SQ : Hid (b4 = 45 → b7 = 45 → Spell b0 b1 b2 b3 b4 b5 b6 b7 b8 b9 Y M D) := Lib.hid (fun f4 f7 => by
          rw [pvl4] at hY
          rw [pvl2] at hM hD
          exact ⟨hd0 _ (by simp), hd0 _ (by simp), hd0 _ (by simp), hd0 _ (by simp), hd1 _ (by simp), hd1 _ (by simp), hd2 _ (by simp), hd2 _ (by simp), f4, f7, hY.symm, hM.symm, hD.symm⟩)
        have i4 : ∀ h, s[4]'h = b4 := fun h => by have := idx_of HX.out.1 4 h; simpa using this.symm
        have i7 : ∀ h, s[7]'h = b7 := fun h => by have := idx_of HX.out.1 7 h; simpa using this.symm
        have HBL := Lib.hid hbel
        clear hd0 hd1 hd2 hY hM hD hbel
        by_cases hI : Cal.Is Y M D
        · have HI := Lib.hid hI
          clear hI
          by_cases f4 : b4 = 45
          · by_cases f7 : b7 = 45
            · have L : Hid (s.data.toList = dateL Y M D) := Lib.hid (by
                obtain ⟨y0, y1, m0, m1, d0, d1⟩ := is_bd HI.out
                exact HX.out.1.trans ((spell_iff _ _ _ _ _ _ _ _ _ _ Y M D (by omega) (by omega) (by omega) (by omega) (by omega) (by omega)).2 (SQ.out f4 f7)))
              clear SP SQ
              rw [f4] at i4
              rw [f7] at i7
              clear f4 f7
              go_wp2_with (go_at_call 23; (with_reducible refine (rday_yes _ _ _ HI.out _).mono ?_); rintro e w' ⟨rfl, rfl⟩)
              go_ret2
              exact ⟨_, true, rfl, .inl ⟨rfl, Y, M, D, HI.out, L.out, rfl⟩, HBL.out⟩
            · have P0 : Hid (PR s.data.toList 0 false) := Lib.hid (pr_bad HX.out.1 (fun y m d hS _ => f7 (SP.out y m d hS).2.2.2.2))
              have f7' : ¬ b7.toNat = 45 := fun e => f7 (UInt8.toNat_inj.mp e)
              have f7a : ((b7.toNat : Int) == 45) = false := by simp; omega
              have f7b : (b7.toNat == 45) = false := by simp; omega
              clear SP SQ f7
              rw [f4] at i4
              clear f4
              go_wp2_with (go_at_call 23; (with_reducible refine (rday_yes _ _ _ HI.out _).mono ?_); rintro e w' ⟨rfl, rfl⟩)
              go_ret2
              exact ⟨0, false, rfl, P0.out, HBL.out⟩
          · have P0 : Hid (PR s.data.toList 0 false) := Lib.hid (pr_bad HX.out.1 (fun y m d hS _ => f4 (SP.out y m d hS).2.2.2.1))
            have f4' : ¬ b4.toNat = 45 := fun e => f4 (UInt8.toNat_inj.mp e)
            have f4a : ((b4.toNat : Int) == 45) = false := by simp; omega
            have f4b : (b4.toNat == 45) = false := by simp; omega
            clear SP SQ f4
            go_wp2_with (go_at_call 23; (with_reducible refine (rday_yes _ _ _ HI.out _).mono ?_); rintro e w' ⟨rfl, rfl⟩)
            go_ret2
            exact ⟨0, false, rfl, P0.out, HBL.out⟩
        · have P0 : Hid (PR s.data.toList 0 false) := Lib.hid (pr_bad HX.out.1 (fun y m d hS hi => by
            obtain ⟨rfl, rfl, rfl, _, _⟩ := SP.out y m d hS
            exact hI hi))
          have HI := Lib.hid hI
          clear SP SQ hI
          go_wp2_with (go_at_call 23; (with_reducible refine (rday_no _ _ _ HI.out _).mono ?_); rintro e w' ⟨rfl, rfl⟩)
          go_ret2
          exact ⟨0, false, rfl, P0.out, HBL.out⟩
  · go_enter Tryd.func42, Tryd.ntmps42
    go_wp2_with fail
    go_ret2
    exact ⟨0, false, rfl, PR.no_len h10, Below.refl _ _⟩
end Go.Proofs.YtfoocingingpcaaDoor
