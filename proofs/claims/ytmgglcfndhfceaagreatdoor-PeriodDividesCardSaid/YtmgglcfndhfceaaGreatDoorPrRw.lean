/-
  The reference of layer 3 (calendar): contracts of IsHoliday, IsWorkday, Workdays. Conditions: the list reads as valid rules; the days are in range.
-/
import Derived.Test.YtmgglcfndhfceaaGreatDoorPrRn
import Derived.Test.YtmgglcfndhfceaaGreatDoorPrCp
namespace Go.Proofs.YtmgglcfndhfceaaGreatDoor
open Go Go.RowKit Go.Lib

/-- Some rule names day d for year y or a neighbouring one. -/
def Hit (hs : List Cal.Hol) (y d : Int) : Prop := ∃ (i : Nat) (hi : i < hs.length) (z : Int), max (y - 1) 1970 ≤ z ∧ z ≤ min (y + 1) 2199 ∧ hs[i].b z = true ∧ hs[i].v z = d
theorem hit_iff (hs : List Cal.Hol) (hv : hs.all Cal.Hol.ok = true) (y d : Int) (h0 : 1970 ≤ y) (h1 : y ≤ 2199) (hy : Cal.nY y ≤ d ∧ d < Cal.nY (y + 1)) : d ∈ Cal.nmAll hs ↔ Hit hs y d := by
  unfold Cal.nmAll
  rw [Cal.mem_allY]
  constructor
  · rintro ⟨k, hk, h⟩
    obtain ⟨r, hr, hb, e⟩ := (Cal.mem_oneY _ _ _).mp h
    have ok := (List.all_eq_true.mp hv) r hr
    obtain ⟨n0, n1⟩ := Cal.near r (1970 + k) ok (by omega) (by omega) hb
    have s1 := Cal.nY_succ (1970 + k + 1)
    have s2 := Cal.nY_succ (1970 + k - 1)
    have l1 := Cal.lp_01 (1970 + (k : Int) + 1)
    have l2 := Cal.lp_01 (1970 + (k : Int) - 1)
    rw [show 1970 + (k : Int) - 1 + 1 = 1970 + k by omega] at s2
    have k1 : y < 1970 + k + 1 + 1 := Cal.nY_lt (by omega)
    have k2 : 1970 + (k : Int) - 1 < y + 1 := Cal.nY_lt (by omega)
    obtain ⟨i, hi, rfl⟩ := List.mem_iff_getElem.mp hr
    exact ⟨i, hi, 1970 + k, by omega, by omega, hb, e⟩
  · rintro ⟨i, hi, z, z0, z1, hb, e⟩
    refine ⟨(z - 1970).toNat, by omega, ?_⟩
    rw [show (1970 : Int) + ((z - 1970).toNat : Nat) = z by omega]
    exact (Cal.mem_oneY _ _ _).mpr ⟨hs[i], List.getElem_mem hi, hb, e⟩

set_option maxRecDepth 100000 in
set_option maxHeartbeats 4000000 in
theorem isHol_any (B : Bool) (A : Option Addr) (n cp : Nat) (hs : List Cal.Hol) (hn : n ≤ 1024) (day y k d : Int) (hd : Cal.DateIs day y k d) (hv : hs.all Cal.Hol.ok = true) (hB : B = true ↔ Hit hs y day) (w : World) (hr : HolRow w w.heap.size A n hs) :
    Calls Tryz.prog 72 #[.slice A n cp, .int .i64 day] w (RetB B w) := by
  have HD := Lib.hid hd
  have HV := Lib.hid hv
  have HBI := Lib.hid hB
  have HR := Lib.hid hr
  have HLN := Lib.hid hr.1
  have y0 := hd.y0
  have y1 := hd.y1
  clear hd hv hB hr
  go_enter Tryz.func72, Tryz.ntmps72
  go_wp2_with (go_at_call 33; (with_reducible refine (rdate_yes _ _ _ _ HD.out _).mono ?_); rintro e w' ⟨rfl, rfl⟩)
  go_loopw [9] (fun z wr => ∃ i : Nat, i ≤ n ∧ z = .int .i64 i ∧ Hid (∀ (j : Nat) (hj : j < hs.length), j < i → ∀ t, max (y - 1) 1970 ≤ t → t ≤ min (y + 1) 2199 → ¬ (hs[j].b t = true ∧ hs[j].v t = day)) ∧ Below w.heap.size w wr) (fun z _ => n - (intOf z).toNat)
  case atStart => exact ⟨0, by omega, rfl, Lib.hid (fun j _ h => absurd h (by omega)), Below.refl _ _⟩
  case round =>
    obtain ⟨i, hi, rfl, HN, hBl⟩ := hrel
    by_cases hlt : i < n
    · have hd0 : decide ((i : Int) < (n : Int)) = true := decide_eq_true (by omega)
      have hk' : i < hs.length := by have := HLN.out; omega
      go_wp2_with fail
      obtain ⟨wo, rfl⟩ : ∃ wo : World, wo = wr := ⟨_, rfl⟩
      go_loopw [10] (fun z wr => ∃ t : Int, max (y - 1) 1970 ≤ t ∧ t ≤ min (y + 1) 2199 + 1 ∧ z = .int .i64 t ∧ Hid (∀ u, max (y - 1) 1970 ≤ u → u < t → ¬ (hs[i].b u = true ∧ hs[i].v u = day)) ∧ Below w.heap.size w wr) (fun z _ => (min (y + 1) 2199 + 1 - intOf z).toNat)
      case atStart => exact ⟨_, by omega, by omega, rfl, Lib.hid (fun u h0 h1 => by omega), hBl⟩
      case round =>
        clear hBl
        obtain ⟨t, t0, t1, rfl, HU, hBl⟩ := hrel
        by_cases ht : t ≤ min (y + 1) 2199
        · have hd1 : decide (t ≤ min (y + 1) 2199) = true := decide_eq_true ht
          obtain ⟨_, hcs⟩ := HR.out.below hBl
          obtain ⟨x, hx0, hx, hc⟩ := hcs (by omega)
          subst hx0
          obtain ⟨c0, c1, c2, c3, c4, c5⟩ := hc i hk'
          have hv1 := (List.all_eq_true.mp HV.out) hs[i] (List.getElem_mem hk')
          have C := Lib.hid (rnamed_any hs[i] t hv1 (by omega) (by omega))
          rcases hbb : hs[i].b t with _ | _
          · have HB := Lib.hid hbb
            have HU2 : Hid (∀ u, max (y - 1) 1970 ≤ u → u < t + 1 → ¬ (hs[i].b u = true ∧ hs[i].v u = day)) := Lib.hid (fun u u0 u1 => by
              by_cases e : u = t
              · subst e; rw [hbb]; simp
              · exact HU.out u u0 (by omega))
            clear hc hcs hv1 hbb HU
            generalize hs[i] = h at c0 c1 c2 c3 c4 c5 C HB HU2
            go_wp2_with fail
            refine (C.out _).mono ?_
            rintro e w2 ⟨v, rfl, _, hw2⟩
            rw [HB.out]
            have hB2 := hBl.trans (hw2.mono hBl.size)
            clear hw2 C hBl c0 c1 c2 c3 c4 c5
            go_wp2_with fail
            go_roundw
            case rel => exact ⟨t + 1, by omega, by omega, rfl, HU2, hB2⟩
            case measure => simp [intOf]; omega
          · have HB := Lib.hid hbb
            by_cases hvd : hs[i].v t = day
            · have HBT : Hid (true = B) := Lib.hid (HBI.out.mpr ⟨i, hk', t, t0, ht, hbb, hvd⟩).symm
              have hde : (hs[i].v t == day) = true := by simp [hvd]
              clear hc hcs hv1 hbb HU hvd
              generalize hs[i] = h at c0 c1 c2 c3 c4 c5 C HB hde
              go_wp2_with fail
              refine (C.out _).mono ?_
              rintro e w2 ⟨v, rfl, hvv, hw2⟩
              obtain rfl := hvv HB.out
              rw [HB.out]
              have hB2 := hBl.trans (hw2.mono hBl.size)
              clear hw2 C hBl hvv c0 c1 c2 c3 c4 c5
              go_wp2_with fail
              go_ret
              exact RetB.of rfl HBT.out.symm hB2
            · have HU2 : Hid (∀ u, max (y - 1) 1970 ≤ u → u < t + 1 → ¬ (hs[i].b u = true ∧ hs[i].v u = day)) := Lib.hid (fun u u0 u1 => by
                by_cases e : u = t
                · subst e; exact fun h => hvd h.2
                · exact HU.out u u0 (by omega))
              have hde : (hs[i].v t == day) = false := by simp [hvd]
              clear hc hcs hv1 hbb HU hvd
              generalize hs[i] = h at c0 c1 c2 c3 c4 c5 C HB hde HU2
              go_wp2_with fail
              refine (C.out _).mono ?_
              rintro e w2 ⟨v, rfl, hvv, hw2⟩
              obtain rfl := hvv HB.out
              rw [HB.out]
              have hB2 := hBl.trans (hw2.mono hBl.size)
              clear hw2 C hBl hvv c0 c1 c2 c3 c4 c5
              go_wp2_with fail
              go_roundw
              case rel => exact ⟨t + 1, by omega, by omega, rfl, HU2, hB2⟩
              case measure => simp [intOf]; omega
        · have hd1 : decide (t ≤ min (y + 1) 2199) = false := decide_eq_false ht
          have HN2 : Hid (∀ (j : Nat) (hj : j < hs.length), j < i + 1 → ∀ u, max (y - 1) 1970 ≤ u → u ≤ min (y + 1) 2199 → ¬ (hs[j].b u = true ∧ hs[j].v u = day)) := Lib.hid (fun j hj hji u u0 u1 => by
            by_cases e : j = i
            · subst e; exact HU.out u u0 (by omega)
            · exact HN.out j hj (by omega) u u0 u1)
          go_wp2_with fail
          go_roundw
          case rel => exact ⟨i + 1, by omega, by go_num, HN2, hBl⟩
          case measure => simp [intOf]; omega
    · have hd0 : decide ((i : Int) < (n : Int)) = false := decide_eq_false (by omega)
      have HBF : Hid (B = false) := Lib.hid (by
        rcases hb : B with _ | _
        · rfl
        · obtain ⟨j, hj, z, z0, z1, zb, zv⟩ := HBI.out.mp hb
          exact absurd ⟨zb, zv⟩ (HN.out j hj (by have := HLN.out; omega) z z0 z1))
      go_wp2_with fail
      go_ret
      exact RetB.of rfl HBF.out hBl

set_option maxRecDepth 100000 in
set_option maxHeartbeats 1000000 in
theorem isWork_any (Z : List Int) (A : Option Addr) (n cp : Nat) (hs : List Cal.Hol) (hn : n ≤ 1024) (day y k d : Int) (hd : Cal.DateIs day y k d) (hv : hs.all Cal.Hol.ok = true) (hZ : day ∈ Z ↔ Hit hs y day) (w : World) (hr : HolRow w w.heap.size A n hs) :
    Calls Tryz.prog 57 #[.slice A n cp, .int .i64 day] w (RetB (Cal.wkB Z day) w) := by
  obtain ⟨r0, r1⟩ := hd.range
  by_cases hw : Cal.wd day < 5
  · rcases hb : decide (day ∈ Z) with _ | _
    · have C := Lib.hid (isHol_any false A n cp hs hn day y k d hd hv (by rw [← hZ]; simp [of_decide_eq_false hb]) w hr)
      have E : Hid (Cal.wkB Z day = true) := Lib.hid (by unfold Cal.wkB; rw [hb, decide_eq_true hw]; rfl)
      have hd1 : decide (Cal.wd day < 5) = true := decide_eq_true hw
      clear hb hd hv hZ hr
      go_enter Tryz.func57, Tryz.ntmps57
      go_wp2_with (go_at_call 71; (with_reducible refine (rshown _ (by omega) (by omega) _).mono ?_); rintro e w' ⟨rfl, rfl⟩)
      refine C.out.mono ?_
      rintro e w1 ⟨rfl, hw1⟩
      go_wp2_with fail
      go_ret
      exact RetB.of rfl E.out hw1
    · have C := Lib.hid (isHol_any true A n cp hs hn day y k d hd hv (by rw [← hZ]; simp [of_decide_eq_true hb]) w hr)
      have E : Hid (Cal.wkB Z day = false) := Lib.hid (by unfold Cal.wkB; rw [hb, decide_eq_true hw]; rfl)
      have hd1 : decide (Cal.wd day < 5) = true := decide_eq_true hw
      clear hb hd hv hZ hr
      go_enter Tryz.func57, Tryz.ntmps57
      go_wp2_with (go_at_call 71; (with_reducible refine (rshown _ (by omega) (by omega) _).mono ?_); rintro e w' ⟨rfl, rfl⟩)
      refine C.out.mono ?_
      rintro e w1 ⟨rfl, hw1⟩
      go_wp2_with fail
      go_ret
      exact RetB.of rfl E.out hw1
  · have E : Hid (Cal.wkB Z day = false) := Lib.hid (by unfold Cal.wkB; rw [decide_eq_false hw]; rfl)
    have hd1 : decide (Cal.wd day < 5) = false := decide_eq_false hw
    clear hd hv hZ hr
    go_enter Tryz.func57, Tryz.ntmps57
    go_wp2_with (go_at_call 71; (with_reducible refine (rshown _ (by omega) (by omega) _).mono ?_); rintro e w' ⟨rfl, rfl⟩)
    go_ret
    exact RetB.of rfl E.out (Below.refl _ _)

end Go.Proofs.YtmgglcfndhfceaaGreatDoor
