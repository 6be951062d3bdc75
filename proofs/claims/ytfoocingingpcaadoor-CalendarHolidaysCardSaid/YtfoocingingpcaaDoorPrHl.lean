/-
  CalendarHolidays: the walk: which rules are valid, the holidays of years, and the numbers of working days are those of the reference; the answer is true. Condition: the listed variables read as the program's text lays them.
-/
import Derived.Test.YtfoocingingpcaaDoorPrRe
import Derived.Test.YtfoocingingpcaaDoorPrRs
import Derived.Test.YtfoocingingpcaaDoorPrCk
import Derived.Deep.DeepCutAuto
namespace Go.Proofs.YtfoocingingpcaaDoor
open Go Go.RowKit Go.Lib Go.Sort Go.Proofs.YtfoocingingpcaaDoor.Tp

theorem five (w : World) (x0 x1 x2 x3 x4 : Int) (t : TypeId) : ∀ i, i < ([x0, x1, x2, x3, x4] : List Int).length → (w.alloc (.cells #[.int .i64 x0, .int .i64 x1, .int .i64 x2, .int .i64 x3, .int .i64 x4] t)).cell? ⟨w.heap.size, i, none⟩ = some (.int .i64 (([x0, x1, x2, x3, x4] : List Int).getD i 0)) := by
  intro i hi
  rcases i with _ | _ | _ | _ | _ | i
  · go_simp
  · go_simp
  · go_simp
  · go_simp
  · go_simp
  · simp at hi; omega

/-- Behind the choice of the rules, the year and the day. -/
def CutH (w : World) (s t u : Value) (wx : World) : Prop := ∃ (A : Option Addr) (n cap : Nat) (hs : List Cal.Hol) (y a : Int), s = .slice A n cap ∧ t = .int .i64 y ∧ u = .int .i64 a ∧ n ≤ 6 ∧ Fits y ∧ Fits a ∧ HolRow wx wx.heap.size A n hs ∧ (0 < n → ∀ q, A = some q → q.block ≠ w.heap.size) ∧ TapeAt w.heap.size wx ∧ Below w.heap.size w wx
/-- Behind the choice of the range's end. -/
def CutB (w : World) (A : Option Addr) (n : Nat) (hs : List Cal.Hol) (s : Value) (wx : World) : Prop := ∃ b : Int, s = .int .i64 b ∧ HolRow wx wx.heap.size A n hs ∧ TapeAt w.heap.size wx ∧ Below w.heap.size w wx
theorem hol_only' {u v : World} {b n : Nat} {A : Option Addr} {hs : List Cal.Hol} (h : HolRow u u.heap.size A n hs) (hO : Only b u v) (hne : 0 < n → ∀ y, A = some y → y.block ≠ b) : HolRow v v.heap.size A n hs := by
  rcases Nat.eq_zero_or_pos n with h0 | h0
  · exact ⟨h.1, fun h => by omega⟩
  · rcases A with _ | x
    · obtain ⟨y, e, _⟩ := h.2 h0; cases e
    · exact (holRow_only h hO (hne h0 x rfl)).more hO.size

set_option maxRecDepth 100000 in
set_option maxHeartbeats 16000000 in
theorem hols_walk (p : Option Addr) (len cap : Nat) (zs : List Int) (A1 : Option Addr) (n1 cap1 : Nat) (hs1 : List Cal.Hol) (year from_ : Int) (hy : Fits year) (hf : Fits from_) (w : World) (hr : IsRow w p len cap zs) (hl : len ≤ 9223372036854775807) (hr1 : HolRow w w.heap.size A1 n1 hs1) (hn1 : n1 ≤ 9223372036854775807) (hok : OKC w) :
    Calls Tryd.prog 7 #[.slice p len cap, .slice A1 n1 cap1, .int .i64 year, .int .i64 from_] w fun e w' => e = .returned (.bool true) ∧ Below w.heap.size w w' := by
  have HTT := Lib.hid (tape_new hr hl 63)
  have HR1 := Lib.hid hr1
  obtain ⟨fy0, fy1⟩ := hy
  obtain ⟨ff0, ff1⟩ := hf
  clear hr hr1
  go_enter Tryd.func7, Tryd.ntmps7
  go_wp2_with fail
  refine (gnew_any _ _ _ _).mono ?_
  rintro e w' ⟨rfl, rfl⟩
  have BB0 : Below w.heap.size w (w.alloc (.cells #[.slice p len cap, .int .i64 0] 63)) := Below.alloc (Below.refl _ _) (Nat.le_refl _) _
  generalize w.alloc (.cells #[.slice p len cap, .int .i64 0] 63) = w0 at HTT BB0
  go_wp2_with fail
  go_loopw [10] (fun z wr => ∃ i : Nat, i ≤ 3 ∧ z = .int .i64 i ∧ TapeAt w.heap.size wr ∧ Below w.heap.size w wr) (fun z _ => 3 - (intOf z).toNat)
  case atStart => exact ⟨0, by omega, rfl, HTT.out, BB0⟩
  case round =>
    clear HTT BB0
    obtain ⟨i, hi, rfl, T, B⟩ := hrel
    by_cases hlt : i < 3
    · have hlt0 : decide ((i : Int) < 3) = true := decide_eq_true (by omega)
      have HB := Lib.hid B
      clear B
      go_wp2_with fail
      refine (thol_any w.heap.size true _ T).mono ?_
      rintro e w1 ⟨A, n, c2, hs, rfl, hk, hR, hne, _, T1, O1⟩
      have HRt := Lib.hid hR
      have HNE := Lib.hid hne
      clear hR hne T
      go_wp2_with fail
      refine (next_any w.heap.size 30 (by omega) (by omega) _ T1).mono ?_
      rintro e w2 ⟨v2, rfl, a0, a1, T2, O2⟩
      have O12 := O1.trans O2
      have HRt2 := Lib.hid (hol_only HRt.out O2 HNE.out)
      clear T1 O1 O2 HRt
      go_wp2_with fail
      refine (pick_any w.heap.size w2.heap.size [2026, 1970, 2199, 1969, 2000 + v2] (by simp) (by simp) (by have := T2.lt; omega) _ (T2.alloc _) (five w2 _ _ _ _ _ _)).mono ?_
      rintro e w3 ⟨y, rfl, m3, T3, O3⟩
      simp only [List.mem_cons, List.not_mem_nil, or_false] at m3
      have y0 : 1960 ≤ y := by omega
      have y1 : y ≤ 2300 := by omega
      have O13 := (O12.alloc (.cells #[.int .i64 2026, .int .i64 1970, .int .i64 2199, .int .i64 1969, .int .i64 (2000 + v2)] 3)).trans O3
      have HRt3 := Lib.hid (hol_only ((HRt2.out.below (Below.alloc (Below.refl _ _) (Nat.le_refl _) (.cells #[.int .i64 2026, .int .i64 1970, .int .i64 2199, .int .i64 1969, .int .i64 (2000 + v2)] 3))).more (by simp)) O3 HNE.out)
      clear m3 T2 O12 O3 HRt2
      go_wp2_with fail
      refine (tday_any w.heap.size _ T3).mono ?_
      rintro e w4 ⟨x, rfl, x0, x1, T4, O4⟩
      have O14 := O13.trans O4
      have HRt4 := Lib.hid (hol_only HRt3.out O4 HNE.out)
      have HB4 := Lib.hid (HB.out.trans (O14.below (Nat.le_refl _) HB.out.size))
      have HT4 := Lib.hid T4
      clear T3 T4 O13 O4 O14 HRt3 HB
      go_upto_region 7 with fail
      go_cut [45] (fun s wx => ∃ q : Bool, s = .bool q ∧ Hid (q = true → n1 ≤ 6) ∧ wx = w4)
      case first =>
        by_cases hi2 : i = 2
        · subst hi2
          by_cases hn6 : n1 ≤ 6
          · have hn60 : decide ((n1 : Int) ≤ 6) = true := decide_eq_true (by omega)
            go_wp2_with fail
            go_meet
            exact ⟨true, rfl, Lib.hid (fun _ => hn6), rfl⟩
          · have hn60 : decide ((n1 : Int) ≤ 6) = false := decide_eq_false (by omega)
            go_wp2_with fail
            go_meet
            exact ⟨false, rfl, Lib.hid (fun c => by cases c), rfl⟩
        · have hi20 : ((i : Int) == 2) = false := by simp; omega
          go_wp2_with fail
          go_meet
          exact ⟨false, rfl, Lib.hid (fun c => by cases c), rfl⟩
      case rest =>
       obtain ⟨q, rfl, HQ, rfl⟩ := hcut
       go_upto_if 45 with fail
       go_cut [11, 12, 13] (fun s t u wx => CutH w s t u wx)
       case first =>
        rcases q with _ | _
        · go_wp2_with fail
          go_meet
          exact ⟨A, n, c2, hs, y, x, rfl, rfl, rfl, by omega, ⟨by omega, by omega⟩, ⟨by omega, by omega⟩, HRt4.out, (fun _ q hq => Nat.ne_of_gt (HNE.out q hq)), HT4.out, HB4.out⟩
        · have hn6 := HQ.out rfl
          have HR1b := Lib.hid ((HR1.out.below HB4.out).more HB4.out.size)
          go_wp2_with fail
          go_meet
          exact ⟨A1, n1, cap1, hs1, year, from_, rfl, rfl, rfl, by omega, ⟨fy0, fy1⟩, ⟨ff0, ff1⟩, HR1b.out, (fun h0 q hq => by
            obtain ⟨z, e, hz, _⟩ := HR1.out.2 h0
            rw [hq] at e; injection e with e; subst e; omega), HT4.out, HB4.out⟩
       case rest =>
        clear HRt4 HT4 HB4 HNE HQ x0 x1 y0 y1 hk
        obtain ⟨A, n, c2, hs, y, a, rfl, rfl, rfl, hn6, fy, fa, hR, hne, hT, hB⟩ := hcut
        have HR0 := Lib.hid hR
        have HNE := Lib.hid hne
        have HT0 := Lib.hid hT
        have HB0 := Lib.hid hB
        obtain ⟨fa0, fa1⟩ := fa
        clear hR hne hT hB fy
        go_upto_region 10 with fail
        go_cut [55] (fun s wy => ∃ q : Bool, s = .bool q ∧ Hid (q = true → 0 ≤ a ∧ a ≤ 84005) ∧ wy = wc)
        case first =>
          by_cases hneg : a < 0
          · go_wp2_with fail
            go_meet
            exact ⟨false, rfl, Lib.hid (fun c => by cases c), rfl⟩
          · by_cases hbig : 84005 < a
            · have hpos : 0 ≤ a := by omega
              have hbig0 : decide (a ≤ 84005) = false := decide_eq_false (by omega)
              clear hneg
              go_wp2_with fail
              go_meet
              exact ⟨false, rfl, Lib.hid (fun c => by cases c), rfl⟩
            · have hpos : 0 ≤ a := by omega
              have hle : a ≤ 84005 := by omega
              clear hneg hbig
              go_wp2_with fail
              go_meet
              exact ⟨true, rfl, Lib.hid (fun _ => ⟨hpos, hle⟩), rfl⟩
        case rest =>
         obtain ⟨q, rfl, HQ, rfl⟩ := hcut
         go_upto_if 55 with fail
         go_cut [14] (fun s wx => CutB w A n hs s wx)
         case first =>
          rcases q with _ | _
          · go_wp2_with fail
            go_meet
            exact ⟨a, rfl, HR0.out, HT0.out, HB0.out⟩
          · obtain ⟨hpos, hle⟩ := HQ.out rfl
            go_wp2_with fail
            refine (next_any w.heap.size 40 (by omega) (by omega) _ HT0.out).mono ?_
            rintro e w5 ⟨v5, rfl, b0, b1, T5, O5⟩
            go_wp2_with fail
            go_meet
            exact ⟨_, rfl, hol_only' HR0.out O5 HNE.out, T5, HB0.out.trans (O5.below (Nat.le_refl _) HB0.out.size)⟩
         case rest =>
          clear HR0 HT0 HB0 HNE HQ fa0 fa1
          obtain ⟨b, rfl, hR, hT, hB⟩ := hcut
          have HR0 := Lib.hid hR
          have HT0 := Lib.hid hT
          have B0 := Lib.hid hB
          have hl0 := hok.lg.below hB
          clear hR hT hB
          obtain ⟨Z, hZ⟩ : ∃ Z, Cal.nmAll hs = Z := ⟨_, rfl⟩
          have HZ := Lib.hid hZ
          clear hZ
          have hxl : (holX hs y).length ≤ 300000 := by have := holX_len hs y; have := HR0.out.1; omega
          go_wp2_with fail
          refine (chol_v A n c2 hs (by omega) y _ HR0.out hl0).mono ?_
          rintro e wa ⟨va, rfl, hIa, hBa⟩
          have HRa := Lib.hid (HR0.out.size hBa)
          have Ba := Lib.hid (B0.out.trans (hBa.mono B0.out.size))
          have HIa := Lib.hid hIa
          have hla := hl0.below hBa
          have HTa := Lib.hid (HT0.out.below hBa)
          clear hIa hBa HR0 B0 hl0 HT0
          go_wp2_with fail
          refine (rhol_v A n c2 hs (by omega) y _ HRa.out).mono ?_
          rintro e wb ⟨vb, rfl, hIb, hBb⟩
          have HRb := Lib.hid (HRa.out.size hBb)
          have Bb := Lib.hid (Ba.out.trans (hBb.mono Ba.out.size))
          have HIab := Lib.hid (HIa.out.more hBb)
          have HIb := Lib.hid hIb
          have hlb := hla.below hBb
          have HTb := Lib.hid (HTa.out.below hBb)
          clear hIb hBb HRa Ba hla HTa HIa
          go_wp2_with fail
          refine (cwork_v Z A n c2 hs HZ.out (by omega) a b _ HRb.out hlb).mono ?_
          rintro e wc ⟨rfl, hBc⟩
          have HRc := Lib.hid (HRb.out.size hBc)
          have Bc := Lib.hid (Bb.out.trans (hBc.mono Bb.out.size))
          have HIac := Lib.hid (HIab.out.more hBc)
          have HIbc := Lib.hid (HIb.out.more hBc)
          have hlc := hlb.below hBc
          have HTc := Lib.hid (HTb.out.below hBc)
          clear hBc HRb Bb hlb HTb HIab HIb
          go_wp2_with fail
          refine (rwork_v Z A n c2 hs HZ.out (by omega) a b _ HRc.out).mono ?_
          rintro e wd ⟨rfl, hBd⟩
          have HRd := Lib.hid (HRc.out.size hBd)
          have Bd := Lib.hid (Bc.out.trans (hBd.mono Bc.out.size))
          have HIad := Lib.hid (HIac.out.more hBd)
          have HIbd := Lib.hid (HIbc.out.more hBd)
          have hld := hlc.below hBd
          have HTd := Lib.hid (HTc.out.below hBd)
          clear hBd HRc Bc hlc HTc HIac HIbc
          go_wp2_with fail
          refine (same_own hxl HIad.out HIbd.out).mono ?_
          rintro e we ⟨rfl, hBe⟩
          have HRe := Lib.hid (HRd.out.size hBe)
          have Be := Lib.hid (Bd.out.trans (hBe.mono Bd.out.size))
          have hle := hld.below hBe
          have HTe := Lib.hid (HTd.out.below hBe)
          clear hBe HRd Bd hld HTd HIad HIbd
          go_wp2_with fail
          refine (validL_any A n c2 hs (by omega) _ HRe.out hle).mono ?_
          rintro e wf ⟨rfl, hBf⟩
          have HRf := Lib.hid (HRe.out.size hBf)
          have Bf := Lib.hid (Be.out.trans (hBf.mono Be.out.size))
          have HTf := Lib.hid (HTe.out.below hBf)
          clear hBf HRe Be hle HTe
          go_wp2_with fail
          refine (rvalidL_any A n c2 hs (by omega) _ HRf.out).mono ?_
          rintro e wg ⟨rfl, hBg⟩
          have Bg := Bf.out.trans (hBg.mono Bf.out.size)
          have HTg := HTf.out.below hBg
          clear hBg HRf Bf HTf
          go_wp2_with fail
          go_roundw
          case rel => exact ⟨i + 1, by omega, by go_num, HTg, Bg⟩
          case measure => simp [intOf]; omega
    · obtain rfl : i = 3 := by omega
      have B' := B
      go_wp2_with fail
      refine (sane_any _ (hok.below B)).mono ?_
      rintro e w3 ⟨rfl, hw3⟩
      have hB3 := B'.trans (hw3.mono B'.size)
      clear hw3 B B'
      go_wp2_with fail
      go_ret
      exact ⟨rfl, hB3⟩
end Go.Proofs.YtfoocingingpcaaDoor
