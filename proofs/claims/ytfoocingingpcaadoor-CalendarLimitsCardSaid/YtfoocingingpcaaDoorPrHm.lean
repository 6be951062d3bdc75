/-
  CalendarLimits: the walk: at most 1024 rules are accepted, and not one more; the answer is true. Condition: the listed variables read as the program's text lays them.
-/
import Derived.Test.YtfoocingingpcaaDoorPrRe
import Derived.Test.YtfoocingingpcaaDoorPrRs
import Derived.Test.YtfoocingingpcaaDoorPrCk
namespace Go.Proofs.YtfoocingingpcaaDoor
open Go Go.RowKit Go.Lib Go.Sort Go.Proofs.YtfoocingingpcaaDoor.Tp

theorem date_ok (m d : Int) (hm : 1 ≤ m) (hm' : m ≤ 12) (hd : 1 ≤ d) (hd' : d ≤ 28) : (⟨0, m, d, 0, 0, false⟩ : Cal.Hol).ok = true := by
  unfold Cal.Hol.ok Cal.vB
  refine decide_eq_true (.inl ⟨rfl, hm, hm', hd, ?_, rfl, rfl⟩)
  simp only
  unfold Cal.lgM
  split
  · omega
  · split <;> omega

set_option maxRecDepth 100000 in
set_option maxHeartbeats 4000000 in
theorem limits_walk (n year : Int) (hn : Fits n) (hy : Fits year) (w : World) (hok : OKC w) :
    Calls Tryd.prog 3 #[.int .i64 n, .int .i64 year] w fun e w' => e = .returned (.bool true) ∧ Below w.heap.size w w' := by
  obtain ⟨i0, hi0, hz0, hz1, hz2⟩ := info_parts infoHol
  have HI := Lib.hid (And.intro hi0 (And.intro hz0 (And.intro hz1 hz2)))
  clear hi0 hz0 hz1 hz2
  have m0 := modT_lo n 3 (by omega)
  have m1 := modT_hi n 3 (by omega)
  have M := Lib.hid (mod_any n 3 hn.1 hn.2 (by omega) (by omega))
  have k0 := modT_lo year 230 (by omega)
  have k1 := modT_hi year 230 (by omega)
  have K := Lib.hid (mod_any year 230 hy.1 hy.2 (by omega) (by omega))
  generalize modT n 3 = m at m0 m1 M
  generalize modT year 230 = y at k0 k1 K
  clear hn hy
  obtain ⟨a, rfl⟩ := Int.eq_ofNat_of_zero_le m0
  go_enter Tryd.func3, Tryd.ntmps3
  go_wp2_with (go_at_call 12; (with_reducible refine (M.out _).mono ?_); rintro e w' ⟨rfl, rfl⟩)
  go_loopw [5, 6] (fun x z wr => ∃ (k : Nat) (hs : List Cal.Hol), z = .int .i64 k ∧ hs.length + k = 1023 + a ∧ Hid (hs.all Cal.Hol.ok = true) ∧ Hid (wr.ownsRow w.heap.size 25 6 x hs.length (hs.flatMap hcells)) ∧ Hid (Below w.heap.size w wr)) (fun _ z _ => (intOf z).toNat)
  case atStart => exact ⟨1023 + a, [], by congr 1, by simp, Lib.hid rfl, Lib.hid (World.ownsRow_nil _ _ _ _), Lib.hid (Below.refl _ _)⟩
  case round =>
    clear M
    obtain ⟨k, hs, rfl, hl, HA, HW, HB⟩ := hrel
    by_cases h0 : 0 < k
    · go_wp2_with (at_builtin; refine wpList_append_own _ rfl _ _ 22 rfl w.heap.size 25 i0 (.agg #[.int .i64 0, .int .i64 0, .int .i64 0, .int .i64 0, .int .i64 0, .bool false]) 6 48 Tryd.underlying22 HI.out.1 HI.out.2.1 HI.out.2.2.1 HI.out.2.2.2 rfl (by decide) _ _ _ rfl (HW.out.alloc _) ⟨wr.heap.size, 0, none⟩ 1 1 (hcells ⟨0, 1 + (k : Int) % 12, 1 + (k : Int) % 28, 0, 0, false⟩) rfl rfl ?c1 ?c2 ?c3 ?c4 ?c5 ?_)
      case c1 =>
        intro i u hu
        exact alloc_cells _ _ _ i u hu
      case c2 => intro u hu; simp [hcells] at hu; rcases hu with rfl | rfl | rfl | rfl | rfl | rfl <;> rfl
      case c3 => unfold maxLen; omega
      case c4 => omega
      case c5 => have := HB.out.size; simp; omega
      intro v2 w4 hown2 hgrow2 _
      have hB4 : Below w.heap.size wr w4 := Below.grown (Below.alloc (Below.refl _ _) HB.out.size _) hgrow2 (by have := HB.out.size; simp; omega) (fun g hg => (HW.out.lt g hg).1)
      have HB4 := Lib.hid (HB.out.trans hB4)
      have HW4 := Lib.hid hown2
      clear hown2 hgrow2 hB4
      have HD : (⟨0, 1 + (k : Int) % 12, 1 + (k : Int) % 28, 0, 0, false⟩ : Cal.Hol).ok = true := date_ok _ _ (by omega) (by omega) (by omega) (by omega)
      go_wp2_with fail
      go_roundw
      case rel => exact ⟨k - 1, hs ++ [⟨0, 1 + (k : Int) % 12, 1 + (k : Int) % 28, 0, 0, false⟩], by congr 1; omega, by simp; omega, Lib.hid (by rw [List.all_append, HA.out]; simp [HD]), Lib.hid (by have := HW4.out; simpa using this), HB4⟩
      case measure => simp [intOf]; omega
    · obtain rfl : k = 0 := by omega
      obtain ⟨A, cap, hx, hRow⟩ := holRow_own rfl HW.out
      subst hx
      have HR0 := Lib.hid hRow.1
      have hl0 := hok.lg.below HB.out
      clear hRow HW h0 HI
      by_cases hle : hs.length ≤ 1024
      · have hle0 : decide ((hs.length : Int) ≤ 1024) = true := decide_eq_true (by omega)
        have hxl : (holX hs (1970 + y)).length ≤ 300000 := by have := holX_len hs (1970 + y); omega
        go_wp2_with (go_at_call 12; (with_reducible refine (K.out _).mono ?_); rintro e w' ⟨rfl, rfl⟩)
        refine (chol_v A _ cap hs hle (1970 + y) _ HR0.out hl0).mono ?_
        rintro e wa ⟨va, rfl, hIa, hBa⟩
        have HRa := Lib.hid (HR0.out.size hBa)
        have Ba := Lib.hid (HB.out.trans (hBa.mono HB.out.size))
        have HIa := Lib.hid hIa
        have hla := hl0.below hBa
        clear hIa hBa HR0 HB hl0
        go_wp2_with fail
        refine (rhol_v A _ cap hs hle (1970 + y) _ HRa.out).mono ?_
        rintro e wb ⟨vb, rfl, hIb, hBb⟩
        have HRb := Lib.hid (HRa.out.size hBb)
        have Bb := Lib.hid (Ba.out.trans (hBb.mono Ba.out.size))
        have HIab := Lib.hid (HIa.out.more hBb)
        have HIb := Lib.hid hIb
        have hlb := hla.below hBb
        clear hIb hBb HRa Ba hla HIa
        go_wp2_with fail
        refine (validL_any A _ cap hs hle _ HRb.out hlb).mono ?_
        rintro e wc ⟨rfl, hBc⟩
        rw [show vlE hs = 0 by unfold vlE; rw [HA.out]; rfl]
        have Bc := Lib.hid (Bb.out.trans (hBc.mono Bb.out.size))
        have HIac := Lib.hid (HIab.out.more hBc)
        have HIbc := Lib.hid (HIb.out.more hBc)
        clear hBc HRb Bb hlb HIab HIb
        go_wp2_with fail
        refine (same_own hxl HIac.out HIbc.out).mono ?_
        rintro e we ⟨rfl, hBe⟩
        have Be := Lib.hid (Bc.out.trans (hBe.mono Bc.out.size))
        clear hBe HIac HIbc Bc
        go_wp2_with fail
        refine (sane_any _ (hok.below Be.out)).mono ?_
        rintro e wf ⟨rfl, hBf⟩
        have Bf := Be.out.trans (hBf.mono Be.out.size)
        clear hBf Be
        go_wp2_with fail
        go_ret
        exact ⟨rfl, Bf⟩
      · have hlt : 1024 < hs.length := by omega
        have hle0 : decide ((hs.length : Int) ≤ 1024) = false := decide_eq_false (by omega)
        go_wp2_with (go_at_call 12; (with_reducible refine (K.out _).mono ?_); rintro e w' ⟨rfl, rfl⟩)
        refine (hol_many A _ cap hlt (by omega) (1970 + y) _).mono ?_
        rintro e wa ⟨va, rfl, hIa, hBa⟩
        have HRa := Lib.hid (HR0.out.size hBa)
        have Ba := Lib.hid (HB.out.trans (hBa.mono HB.out.size))
        have HIa := Lib.hid hIa
        have hla := hl0.below hBa
        clear hIa hBa HR0 HB hl0
        go_wp2_with fail
        refine (rhol_many A _ cap hlt (by omega) (1970 + y) _).mono ?_
        rintro e wb ⟨vb, rfl, hIb, hBb⟩
        have HRb := Lib.hid (HRa.out.size hBb)
        have Bb := Lib.hid (Ba.out.trans (hBb.mono Ba.out.size))
        have HIab := Lib.hid (HIa.out.more hBb)
        have HIb := Lib.hid hIb
        have hlb := hla.below hBb
        clear hIb hBb HRa Ba hla HIa
        go_wp2_with fail
        refine (validL_many A _ cap hlt (by omega) _).mono ?_
        rintro e wc ⟨rfl, rfl⟩
        have Bc := Bb
        have HIac := HIab
        have HIbc := HIb
        clear HRb Bb hlb HIab HIb
        go_wp2_with fail
        refine (same_own (by simp) HIac.out HIbc.out).mono ?_
        rintro e we ⟨rfl, hBe⟩
        have Be := Lib.hid (Bc.out.trans (hBe.mono Bc.out.size))
        clear hBe HIac HIbc Bc
        go_wp2_with fail
        refine (sane_any _ (hok.below Be.out)).mono ?_
        rintro e wf ⟨rfl, hBf⟩
        have Bf := Be.out.trans (hBf.mono Be.out.size)
        clear hBf Be
        go_wp2_with fail
        go_ret
        exact ⟨rfl, Bf⟩
end Go.Proofs.YtfoocingingpcaaDoor
