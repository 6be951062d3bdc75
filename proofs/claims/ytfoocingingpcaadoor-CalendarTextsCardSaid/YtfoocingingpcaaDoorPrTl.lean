/-
  CalendarTexts: the walk: the texts of days, and which strings are texts, are those of the reference; the answer is true. Conditions: the string takes at most 2^48 bytes; the listed variables read as the program's text lays them.
-/
import Derived.Test.YtfoocingingpcaaDoorPrTr
import Derived.Test.YtfoocingingpcaaDoorPrTp
import Derived.Test.YtfoocingingpcaaDoorPrCz
import Derived.Test.YtfoocingingpcaaDoorPrCt
import Derived.Test.YtfoocingingpcaaDoorPrCk
import Derived.Deep.RegionHeld3
namespace Go.Proofs.YtfoocingingpcaaDoor
open Go Go.RowKit Go.Lib Go.Proofs.YtfoocingingpcaaDoor.Tp

/-- Both Formats write the same. -/
theorem fmt_both (day : Int) : ∃ F : ByteArray, F.size ≤ 30 ∧ (∀ w, OKC w → Calls Tryd.prog 43 #[.int .i64 day] w fun e w' => e = .returned (.string F) ∧ Below w.heap.size w w') ∧
    (∀ w, Calls Tryd.prog 40 #[.int .i64 day] w fun e w' => e = .returned (.string F) ∧ Below w.heap.size w w') := by
  by_cases h : 0 ≤ day ∧ day ≤ 84005
  · obtain ⟨y, k, d, hd⟩ := Cal.date_ex day h.1 h.2
    refine ⟨⟨(dateL y (k + 1) (d + 1)).toArray⟩, ?_, fun w hok => fmt_yes day y k d hd w hok, fun w => rfmt_yes day y k d hd w⟩
    have := dateL_len hd.is.1
    show (dateL y (k + 1) (d + 1)).toArray.size ≤ 30
    simp [this]
  · refine ⟨⟨#[]⟩, Nat.zero_le _, fun w _ => (fmt_no day (by omega) w).mono fun e w' ⟨he, hw⟩ => ⟨he, hw ▸ Below.refl _ _⟩, fun w => (rfmt_no day (by omega) w).mono fun e w' ⟨he, hw⟩ => ⟨he, hw ▸ Below.refl _ _⟩⟩
/-- A block holds these strings. -/
def StrRow (w : World) (B : Nat) (L : List ByteArray) : Prop := ∀ j (h : j < L.length), w.cell? ⟨B, j, none⟩ = some (.string L[j])
theorem StrRow.more {w w' : World} {B : Nat} {L : List ByteArray} (h : StrRow w B L) (hb : Below w.heap.size w w') : StrRow w' B L := fun j hj =>
  (hb.cell (World.block_lt_of_cell? w _ (h j hj))).trans (h j hj)
theorem strRow_alloc (w : World) (L : List ByteArray) (t : TypeId) (cs : Array Value) (h : cs.toList = L.map Value.string) : StrRow (w.alloc (.cells cs t)) w.heap.size L := fun j hj => by
  rw [World.cell?_alloc_at _ _ _ _ rfl]
  have : cs.toList[j]? = some (.string L[j]) := by rw [h, List.getElem?_map, List.getElem?_eq_getElem hj]; rfl
  simpa using this

set_option maxRecDepth 100000 in
set_option maxHeartbeats 4000000 in
theorem texts_walk (p : Option Addr) (len cap : Nat) (zs : List Int) (day : Int) (s : ByteArray) (hs : s.size ≤ 281474976710656) (w : World) (hr : IsRow w p len cap zs) (hl : len ≤ 9223372036854775807) (hok : OKT w) :
    Calls Tryd.prog 6 #[.slice p len cap, .int .i64 day, .string s] w fun e w' => e = .returned (.bool true) ∧ Below w.heap.size w w' := by
  have HTT := Lib.hid (tape_new hr hl 63)
  clear hr
  go_enter Tryd.func6, Tryd.ntmps6
  go_wp2_with fail
  refine (gnew_any _ _ _ _).mono ?_
  rintro e w' ⟨rfl, rfl⟩
  have BB0 : Below w.heap.size w (w.alloc (.cells #[.slice p len cap, .int .i64 0] 63)) := Below.alloc (Below.refl _ _) (Nat.le_refl _) _
  generalize w.alloc (.cells #[.slice p len cap, .int .i64 0] 63) = w0 at HTT BB0
  go_wp2_with fail
  refine (tday_any w.heap.size _ HTT.out).mono ?_
  rintro e w1 ⟨x, rfl, x0, x1, T1, O1⟩
  have B1 := BB0.trans (O1.below (Nat.le_refl _) BB0.size)
  clear BB0 O1 T1 HTT
  obtain ⟨F, hF, _, R⟩ := fmt_both x
  go_wp2_with fail
  refine (R _).mono ?_
  rintro e w2 ⟨rfl, hw2⟩
  have B2 := B1.trans (hw2.mono B1.size)
  clear B1 hw2 R x0 x1
  go_wp2_with fail
  obtain ⟨L, hL⟩ : ∃ L : List ByteArray, [s, F, F ++ ⟨#[48]⟩, ⟨#[50, 48, 50, 54, 45, 50, 45, 48, 51]⟩, ⟨#[50, 48, 50, 54, 45, 48, 50, 45, 50, 57]⟩, ⟨#[50, 48, 50, 52, 45, 48, 50, 45, 50, 57]⟩, ⟨#[49, 57, 54, 57, 45, 49, 50, 45, 51, 49]⟩, ⟨#[50, 50, 48, 48, 45, 48, 49, 45, 48, 49]⟩, ⟨#[50, 48, 50, 54, 95, 48, 49, 45, 48, 49]⟩, ⟨#[50, 48, 50, 54, 45, 48, 49, 95, 48, 49]⟩, ⟨#[43, 48, 50, 54, 45, 48, 49, 45, 48, 49]⟩] = L := ⟨_, rfl⟩
  have HR := Lib.hid (show StrRow (w2.alloc (.cells #[.string s, .string F, .string (F ++ ⟨#[48]⟩), .string ⟨#[50, 48, 50, 54, 45, 50, 45, 48, 51]⟩, .string ⟨#[50, 48, 50, 54, 45, 48, 50, 45, 50, 57]⟩, .string ⟨#[50, 48, 50, 52, 45, 48, 50, 45, 50, 57]⟩, .string ⟨#[49, 57, 54, 57, 45, 49, 50, 45, 51, 49]⟩, .string ⟨#[50, 50, 48, 48, 45, 48, 49, 45, 48, 49]⟩, .string ⟨#[50, 48, 50, 54, 95, 48, 49, 45, 48, 49]⟩, .string ⟨#[50, 48, 50, 54, 45, 48, 49, 95, 48, 49]⟩, .string ⟨#[43, 48, 50, 54, 45, 48, 49, 45, 48, 49]⟩] 9)) w2.heap.size L by rw [← hL]; exact strRow_alloc _ _ _ _ rfl)
  have hlen : L.length = 11 := by rw [← hL]; rfl
  have HZ : Hid (∀ t ∈ L, t.size ≤ 281474976710656) := Lib.hid (by
    rw [← hL]
    intro t ht
    simp only [List.mem_cons, List.not_mem_nil, or_false] at ht
    rcases ht with rfl | rfl | rfl | rfl | rfl | rfl | rfl | rfl | rfl | rfl | rfl
    · exact hs
    · omega
    · simp; show _ + 1 ≤ _; omega
    all_goals decide)
  have B3 := B2.alloc B2.size (.cells #[.string s, .string F, .string (F ++ ⟨#[48]⟩), .string ⟨#[50, 48, 50, 54, 45, 50, 45, 48, 51]⟩, .string ⟨#[50, 48, 50, 54, 45, 48, 50, 45, 50, 57]⟩, .string ⟨#[50, 48, 50, 52, 45, 48, 50, 45, 50, 57]⟩, .string ⟨#[49, 57, 54, 57, 45, 49, 50, 45, 51, 49]⟩, .string ⟨#[50, 50, 48, 48, 45, 48, 49, 45, 48, 49]⟩, .string ⟨#[50, 48, 50, 54, 95, 48, 49, 45, 48, 49]⟩, .string ⟨#[50, 48, 50, 54, 45, 48, 49, 95, 48, 49]⟩, .string ⟨#[43, 48, 50, 54, 45, 48, 49, 45, 48, 49]⟩] 9)
  have sz : w.heap.size < w2.heap.size + 1 := by have := B2.size; omega
  generalize w2.alloc (.cells #[.string s, .string F, .string (F ++ ⟨#[48]⟩), .string ⟨#[50, 48, 50, 54, 45, 50, 45, 48, 51]⟩, .string ⟨#[50, 48, 50, 54, 45, 48, 50, 45, 50, 57]⟩, .string ⟨#[50, 48, 50, 52, 45, 48, 50, 45, 50, 57]⟩, .string ⟨#[49, 57, 54, 57, 45, 49, 50, 45, 51, 49]⟩, .string ⟨#[50, 50, 48, 48, 45, 48, 49, 45, 48, 49]⟩, .string ⟨#[50, 48, 50, 54, 95, 48, 49, 45, 48, 49]⟩, .string ⟨#[50, 48, 50, 54, 45, 48, 49, 95, 48, 49]⟩, .string ⟨#[43, 48, 50, 54, 45, 48, 49, 45, 48, 49]⟩] 9) = w3 at HR B3
  generalize w2.heap.size = Z at HR sz
  clear B2 hL
  go_loopw [10] (fun z wr => ∃ i : Nat, i ≤ 11 ∧ z = .int .i64 i ∧ StrRow wr Z L ∧ Below w.heap.size w wr) (fun z _ => 11 - (intOf z).toNat)
  case atStart => exact ⟨0, by omega, rfl, HR.out, B3⟩
  case round =>
    clear HR B3
    obtain ⟨i, hi, rfl, hR, hB⟩ := hrel
    by_cases hlt : i < 11
    · have hlt0 : decide ((i : Int) < 11) = true := decide_eq_true (by omega)
      have hc := hR i (by omega)
      have hz := HZ.out L[i] (List.getElem_mem _)
      have HRR := Lib.hid hR
      generalize L[i] = t at hc hz
      have HB := Lib.hid hB
      clear hR hB
      go_wp2_with fail
      refine (cparse_any t hz _ (hok.below HB.out)).mono ?_
      rintro e w4 ⟨D, q, rfl, hP, h4⟩
      have HR4 := Lib.hid (HRR.out.more h4)
      have HB4 := Lib.hid (HB.out.trans (h4.mono HB.out.size))
      have HP := Lib.hid hP
      have hc4 := (h4.cell (World.block_lt_of_cell? wr _ hc)).trans hc
      clear h4 HB HRR hP hc
      go_wp2_with fail
      refine (rparse_any t _).mono ?_
      rintro e w5 ⟨D', q', rfl, hP', h5⟩
      obtain ⟨eD, rfl⟩ := HP.out.same hP'
      have hDD : (D == D') = true := by rw [eD]; simp
      have hDN : (D != D') = false := by rw [eD]; simp
      have hDE : (!(D == D')) = false := by rw [hDD]; rfl
      clear eD
      have HR5 := Lib.hid (HR4.out.more h5)
      have HB5 := Lib.hid (HB4.out.trans (h5.mono HB4.out.size))
      have hc5 := (h5.cell (World.block_lt_of_cell? w4 _ hc4)).trans hc4
      clear h5 HB4 HR4 hP' hc4
      have OK5 := Lib.hid (hok.below HB5.out).okc
      have g6 : (i : Int) < 11 := by omega
      have g7 : (0 : Int) ≤ (i : Int) := by omega
      rcases q with _ | _
      · go_wp2_with fail
        go_quiet (fail)
        go_wp2_with fail
        go_roundw
        case rel => exact ⟨i + 1, by omega, by go_num, HR5.out.more (below_drewN (Below.refl _ _) _), HB5.out.trans ((below_drewN (Below.refl _ _) _).mono HB5.out.size)⟩
        case measure => simp [intOf]; omega
      · have HF : Hid (∀ u, OKC u → Calls Tryd.prog 43 #[.int .i64 D] u fun e w' => e = .returned (.string t) ∧ Below u.heap.size u w') := Lib.hid (fun u ho => by
          rcases HP.out with ⟨_, y, m, d, hi', hl', rfl⟩ | ⟨c, _⟩
          · refine fmt_is y m d t hi' ?_ _ ho
            rw [← hl']
          · cases c)
        go_wp2_with fail
        go_region_held3 (fun u => u.cell? ⟨Z, i, none⟩ = some (.string t) ∧ Below w5.heap.size w5 u) (first | exact ⟨by simpa using hc5, (Below.refl _ _).drew⟩ | exact ⟨k0, kB⟩) (first | (go_at_call 43; go_split_ands; refine (HF.out _ (OK5.out.below (by assumption))).mono ?_; rintro e wv ⟨rfl, hwv⟩; (have k0 := cell_belowT (p := ⟨Z, i, none⟩) (v := .string t) (by assumption) hwv); (have kB := Below.trans (by assumption : Below w5.heap.size w5 _) (hwv.mono (Below.size (by assumption : Below w5.heap.size w5 _)))))  )
        go_split_ands
        rename_i hb6
        have hR6 := HR5.out.more hb6
        have hB6 := HB5.out.trans (hb6.mono HB5.out.size)
        clear hb6
        go_wp2_with fail
        go_roundw
        case rel => exact ⟨i + 1, by omega, by go_num, hR6, hB6⟩
        case measure => simp [intOf]; omega
    · obtain rfl : i = 11 := by omega
      obtain ⟨G, _, R1, R2⟩ := fmt_both day
      have HB := Lib.hid hB
      clear hB hR
      go_wp2_with fail
      refine (R1 _ (hok.below HB.out).okc).mono ?_
      rintro e w4 ⟨rfl, h4⟩
      have HB4 := Lib.hid (HB.out.trans (h4.mono HB.out.size))
      clear h4 HB
      go_wp2_with fail
      refine (R2 _).mono ?_
      rintro e w5 ⟨rfl, h5⟩
      have HB5 := Lib.hid (HB4.out.trans (h5.mono HB4.out.size))
      clear h5 HB4
      go_wp2_with fail
      refine (sane_any _ (hok.below HB5.out).okc).mono ?_
      rintro e w6 ⟨rfl, h6⟩
      have HB6 := HB5.out.trans (h6.mono HB5.out.size)
      clear h6 HB5
      go_wp2_with fail
      go_ret
      exact ⟨rfl, HB6⟩
end Go.Proofs.YtfoocingingpcaaDoor
