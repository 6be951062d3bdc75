/-
  Layer 3 (calendar): the contract of Workdays. Conditions: the list reads as rules; the table of month lengths reads as the program's text lays it.
-/
import Derived.Test.YtmgglcfndhfceaaGreatDoorPrCl
import Derived.Test.YtmgglcfndhfceaaGreatDoorPrCn
import Derived.Deep.DeepCutAuto
namespace Go.Proofs.YtmgglcfndhfceaaGreatDoor
open Go Go.RowKit Go.Lib Go.Sort

set_option maxRecDepth 100000 in
set_option maxHeartbeats 1000000 in
/-- No years: nothing is named. -/
theorem allNamed_none (a : Option Addr) (n cap : Nat) (y last : Int) (h : last < y) (w : World) :
    Calls Tryz.prog 68 #[.slice a n cap, .int .i64 y, .int .i64 last] w (AllR [] w) := by
  go_enter Tryz.func68, Tryz.ntmps68
  go_wp2
  refine wp_loop_rounds 1 ?_
  rw [rounds_succ]
  go_wp2_with fail
  refine (Tryz.slices_Sort_int_none _ _ _).mono ?_
  rintro e w' ⟨rfl, rfl⟩
  go_wp2_with fail
  refine (Tryz.slices_Compact_int_empty _ _ _).mono ?_
  rintro e w' ⟨rfl, rfl⟩
  go_wp2_with fail
  go_ret
  exact ⟨_, rfl, .inl ⟨rfl, _, _, rfl⟩, Below.refl _ _⟩
theorem canon_nil : canon [] = [] := by
  have : ∀ v, v ∉ canon [] := fun v h => by have := (mem_canon [] v).mp h; cases this
  exact List.eq_nil_iff_forall_not_mem.mpr this
theorem allNamed_all (a : Option Addr) (n cap : Nat) (hs : List Cal.Hol) (hn : n ≤ 1024) (y last : Int) (y0 : 1970 ≤ y) (y1 : last ≤ 2199) (hv : hs.all Cal.Hol.ok = true) (w : World) (hr : HolRow w w.heap.size a n hs) (hl : LgIs w) :
    Calls Tryz.prog 68 #[.slice a n cap, .int .i64 y, .int .i64 last] w (AllR (canon (Cal.allY hs y (last - y + 1).toNat)) w) := by
  by_cases h : last < y
  · rw [show (last - y + 1).toNat = 0 by omega, show Cal.allY hs y 0 = [] from rfl, canon_nil]
    exact allNamed_none a n cap y last h w
  · exact allNamed_any a n cap hs hn y (last - y + 1).toNat last (by omega) (by omega) y0 (by omega) hv w hr hl

theorem OwnI.nil {w : World} {b : Nat} {v : Value} (h : OwnI w b v []) : ∃ A cap, v = .slice A 0 cap := by
  rcases h with ⟨_, h⟩ | ⟨g, off, cap, hv, _⟩
  · exact h
  · exact ⟨_, _, hv⟩
theorem OwnI.cons {w : World} {b : Nat} {v : Value} {x : Int} {rest : List Int} (h : OwnI w b v (x :: rest)) :
    ∃ g off cap, v = .slice (some ⟨g, off, none⟩) (rest.length + 1) cap ∧ b ≤ g ∧ rest.length + 1 ≤ cap ∧ cap ≤ maxLen ∧ w.cell? ⟨g, off, none⟩ = some (.int .i64 x) ∧ ∀ j (h : j < rest.length), w.cell? ⟨g, off + (j + 1), none⟩ = some (.int .i64 rest[j]) := by
  rcases h with ⟨h, _⟩ | ⟨g, off, cap, hv, hb, hc, hm, hx⟩
  · cases h
  · exact ⟨g, off, cap, hv, hb, hc, hm, hx 0 (by simp), fun j hj => hx (j + 1) (by simp; omega)⟩
theorem ret2E {a b c : Int} (h : a = b) : Ending.returned (.tuple #[.int .i64 a, .int .i64 c]) = .returned (.tuple #[.int .i64 b, .int .i64 c]) := by rw [h]
/-- The days that Workdays holds against the range: those of a list with the right members. -/
def HolsR (Z : List Int) (a b : Int) (base : Nat) (s : Value) (wx : World) : Prop := ∃ zs, (∀ d, a ≤ d → d ≤ b → (d ∈ zs ↔ d ∈ Z)) ∧ OwnI wx base s (canon zs)

set_option maxRecDepth 100000 in
set_option maxHeartbeats 8000000 in
theorem work_z (Z : List Int) (a : Option Addr) (n cap : Nat) (hs : List Cal.Hol) (hn : n ≤ 1024) (from_ to_ yf yt : Int) (f0 : 0 ≤ from_) (f1 : from_ ≤ 84005) (t0 : 0 ≤ to_) (t1 : to_ ≤ 84005) (hf : Cal.nY yf ≤ from_ ∧ from_ < Cal.nY (yf + 1)) (ht : Cal.nY yt ≤ to_ ∧ to_ < Cal.nY (yt + 1)) (yf0 : 1970 ≤ yf) (yf1 : yf ≤ 2199) (yt0 : 1970 ≤ yt) (yt1 : yt ≤ 2199) (hv : hs.all Cal.Hol.ok = true) (hzz : ∀ d, from_ ≤ d → d ≤ to_ → (d ∈ Cal.allY hs (max 1970 (yf - 1)) (min 2199 (yt + 1) - max 1970 (yf - 1) + 1).toNat ↔ d ∈ Z)) (w : World) (hr : HolRow w w.heap.size a n hs) (hl : LgIs w) :
    Calls Tryz.prog 55 #[.slice a n cap, .int .i64 from_, .int .i64 to_] w fun e w' => e = .returned (.tuple #[.int .i64 (Cal.cnt Z from_ (to_ - from_ + 1).toNat), .int .i64 0]) ∧ Below w.heap.size w w' := by
  have C := Lib.hid (validL_any a n cap hs hn w hr hl)
  rw [show vlE hs = 0 by unfold vlE; rw [hv]; rfl] at C
  have HR := Lib.hid hr
  have HV := Lib.hid hv
  have HF := Lib.hid hf
  have HT := Lib.hid ht
  have HZZ := Lib.hid hzz
  clear hv hr hf ht hzz
  go_enter Tryz.func55, Tryz.ntmps55
  go_wp2_with fail
  go_step3
  go_wp2_with fail
  refine C.out.mono ?_
  rintro e w1 ⟨rfl, hw1⟩
  have HW1 := Lib.hid hw1
  have hl1 := hl.below hw1
  have HR1 := Lib.hid ((HR.out.below hw1).more hw1.size)
  clear hw1
  go_upto_region 6 with (go_at_call 67; (with_reducible refine (within_yes _ _ _ (by omega) (by omega) _).mono ?_); rintro e w' ⟨rfl, rfl⟩)
  go_cut [9] (fun s wx => Below w.heap.size w wx ∧ HolsR Z from_ to_ w.heap.size s wx)
  case first =>
    go_wp2_with (first | (go_at_call 69; (with_reducible refine (yearOf_any _ yf (by omega) (by omega) HF.out.1 HF.out.2 _).mono ?_); rintro e w' ⟨rfl, rfl⟩) | (go_at_call 69; (with_reducible refine (yearOf_any _ yt (by omega) (by omega) HT.out.1 HT.out.2 _).mono ?_); rintro e w' ⟨rfl, rfl⟩))
    refine (allNamed_all a n cap hs hn _ _ (by omega) (by omega) HV.out _ HR1.out hl1).mono ?_
    rintro e w2 ⟨v, rfl, hI, hB2⟩
    have HI := Lib.hid hI
    clear hI
    go_wp2_with fail
    go_meet
    refine ⟨HW1.out.trans (hB2.mono HW1.out.size), ⟨_, HZZ.out, HI.out.base HW1.out.size⟩⟩
  case rest =>
    obtain ⟨hB, zs, hz, hI⟩ := hcut
    have HB := Lib.hid hB
    have HZ := Lib.hid hz
    have HI := Lib.hid hI
    have HA := Lib.hid (canon_asc zs)
    have HM := Lib.hid (mem_canon zs)
    clear hB hz hI HR HR1 hl1 HW1 C
    go_wp2_with fail
    go_step3
    go_wp2_with fail
    go_loopg [9, 10, 11] (to_ - from_ + 1).toNat (fun g s9 s10 s11 wx => ∃ (i : Nat) (c : Int) (xs : List Int), i ≤ (to_ - from_ + 1).toNat ∧ (to_ - from_ + 1).toNat - i ≤ g ∧ s11 = .int .i64 (from_ + i) ∧ s10 = .int .i64 c ∧ 0 ≤ c ∧ c ≤ i ∧ OwnI wx w.heap.size s9 xs ∧ Hid (∃ pre, canon zs = pre ++ xs ∧ ∀ v ∈ pre, v < from_ + i) ∧ Hid (c = Cal.cnt Z from_ i) ∧ wx = wc)
    case atStart => exact ⟨0, _, _, by omega, by omega, by simp, rfl, by omega, by omega, HI.out, Lib.hid ⟨[], rfl, by simp⟩, Lib.hid rfl, rfl⟩
    case round =>
      clear HI
      obtain ⟨i, c, xs, hi, hg, rfl, rfl, c0, c1, hI, HP, HC, rfl⟩ := hrel
      by_cases hlt : i < (to_ - from_ + 1).toNat
      · have hd1 : decide (from_ + (i : Int) ≤ to_) = true := decide_eq_true (by omega)
        obtain ⟨g, rfl⟩ : ∃ g, gk = g + 1 := ⟨gk - 1, by omega⟩
        have w0 := (Cal.wd_bd (from_ + i)).1
        have ES := Lib.hid (show Cal.cnt Z from_ (i + 1) = Cal.cnt Z from_ i + if Cal.wkB Z (from_ + i) then 1 else 0 from rfl)
        have EZ := Lib.hid (HZ.out (from_ + i) (by omega) (by omega))
        have HI := Lib.hid hI
        clear hI
        by_cases hwd : 5 ≤ Cal.wd (from_ + i)
        · have hd2 : decide (5 ≤ Cal.wd (from_ + (i : Int))) = true := decide_eq_true hwd
          have EK := Lib.hid (show Cal.wkB Z (from_ + i) = false by unfold Cal.wkB; rw [decide_eq_false (by omega)]; rfl)
          go_wp2_with (go_at_call 70; (with_reducible refine (weekday_any _ (by omega) (by omega) _).mono ?_); rintro e w' ⟨rfl, rfl⟩)
          go_roundg g
          case measure => omega
          case rel => exact ⟨i + 1, c, xs, by omega, by omega, by push_cast; congr 1; omega, rfl, c0, by omega, HI.out, Lib.hid (by obtain ⟨pre, e, hp⟩ := HP.out; exact ⟨pre, e, fun v hv => by have := hp v hv; omega⟩), Lib.hid (by rw [ES.out, EK.out, HC.out]; simp), rfl⟩
        · have hd2 : decide (5 ≤ Cal.wd (from_ + (i : Int))) = false := decide_eq_false hwd
          have EK := Lib.hid (show Cal.wkB Z (from_ + i) = !decide (from_ + (i : Int) ∈ Z) by unfold Cal.wkB; rw [decide_eq_true (by omega)]; rfl)
          go_wp2_with (go_at_call 70; (with_reducible refine (weekday_any _ (by omega) (by omega) _).mono ?_); rintro e w' ⟨rfl, rfl⟩)
          obtain ⟨wo, rfl⟩ : ∃ wo : World, wo = wr := ⟨_, rfl⟩
          go_loopg [9] xs.length (fun g2 s9 wx => ∃ ys : List Int, ys.length ≤ g2 ∧ OwnI wx w.heap.size s9 ys ∧ Hid (∃ pre, canon zs = pre ++ ys ∧ ∀ v ∈ pre, v < from_ + i) ∧ wx = wo)
          case atStart => exact ⟨xs, by omega, HI.out, HP, rfl⟩
          case round =>
            clear HI HP
            obtain ⟨ys, hl2, hI, HP, rfl⟩ := hrel
            rcases ys with _ | ⟨x, rest⟩
            · obtain ⟨A, cap2, hs9⟩ := hI.nil
              subst hs9
              have EN : Hid (¬ (from_ + (i : Int) ∈ Z)) := Lib.hid fun hmem => by
                have h1 := (HM.out _).mpr (EZ.out.mpr hmem)
                obtain ⟨pre, e, hp⟩ := HP.out
                rw [e, List.append_nil] at h1
                have := hp _ h1; omega
              go_wp2_with fail
              go_roundg g
              case measure => omega
              case rel => exact ⟨i + 1, c + 1, [], by omega, by omega, by push_cast; congr 1; omega, by go_num, by omega, by omega, .inl ⟨rfl, _, _, rfl⟩, Lib.hid (by obtain ⟨pre, e, hp⟩ := HP.out; exact ⟨pre, e, fun v hv => by have := hp v hv; omega⟩), Lib.hid (by rw [ES.out, EK.out, HC.out, decide_eq_false EN.out]; simp), rfl⟩
            · obtain ⟨gg, off, cap2, hs9, hbase, hlc, hcm, hc0, hcs⟩ := hI.cons
              have hcm' : cap2 ≤ 9223372036854775807 := by unfold maxLen at hcm; omega
              have HC2 := Lib.hid hcs
              have HII := Lib.hid hI
              clear hcs hcm hI
              subst hs9
              have hlen0 : decide ((0 : Int) < (rest.length : Int) + 1) = true := decide_eq_true (by omega)
              by_cases hx : x ≤ from_ + i
              · have hd3 : decide (x ≤ from_ + (i : Int)) = true := decide_eq_true hx
                by_cases hxe : x = from_ + i
                · have hd4 : (x == from_ + (i : Int)) = true := by simp [hxe]
                  have EN : Hid (from_ + (i : Int) ∈ Z) := Lib.hid (by
                    refine EZ.out.mp ((HM.out _).mp ?_)
                    obtain ⟨pre, e, hp⟩ := HP.out
                    rw [e, ← hxe]; simp)
                  clear hxe
                  go_wp2_with fail
                  go_roundg g
                  case measure => omega
                  case rel => exact ⟨i + 1, c, x :: rest, by omega, by omega, by push_cast; congr 1; omega, rfl, c0, by omega, HII.out, Lib.hid (by obtain ⟨pre, e, hp⟩ := HP.out; exact ⟨pre, e, fun v hv => by have := hp v hv; omega⟩), Lib.hid (by rw [ES.out, EK.out, HC.out, decide_eq_true EN.out]; simp), rfl⟩
                · have hd4 : (x == from_ + (i : Int)) = false := by simp [hxe]
                  have hxl : x < from_ + i := by omega
                  obtain ⟨g2, rfl⟩ : ∃ g2, gk = g2 + 1 := ⟨gk - 1, by simp only [List.length_cons] at hl2; omega⟩
                  simp only [List.length_cons] at hl2
                  have HP2 : Hid (∃ pre, canon zs = pre ++ rest ∧ ∀ v ∈ pre, v < from_ + (i : Int)) := Lib.hid (by
                    obtain ⟨pre, e, hp⟩ := HP.out
                    refine ⟨pre ++ [x], by rw [e]; simp, fun v hv => ?_⟩
                    rcases List.mem_append.mp hv with h | h
                    · exact hp v h
                    · rw [List.mem_singleton] at h; rw [h]; exact hxl)
                  clear hxe
                  by_cases hc1 : cap2 = 1
                  · subst hc1
                    have hr : rest = [] := List.length_eq_zero_iff.mp (by omega)
                    subst hr
                    go_wp2_with fail
                    go_roundg g2
                    case measure => omega
                    case rel => exact ⟨[], by simp, .inl ⟨rfl, _, _, rfl⟩, HP2, rfl⟩
                  · go_wp2_with fail
                    go_roundg g2
                    case measure => omega
                    case rel => exact ⟨rest, by omega, .inr ⟨gg, off + 1, cap2 - 1, rfl, hbase, by omega, by have := hcm'; unfold maxLen; omega, fun j hj => by have := HC2.out j hj; rw [show off + 1 + j = off + (j + 1) by omega]; exact this⟩, HP2, rfl⟩
              · have hd3 : decide (x ≤ from_ + (i : Int)) = false := decide_eq_false hx
                have EN : Hid (¬ (from_ + (i : Int) ∈ Z)) := Lib.hid fun hmem => by
                  have h1 := (HM.out _).mpr (EZ.out.mpr hmem)
                  obtain ⟨pre, e, hp⟩ := HP.out
                  have ha := HA.out
                  rw [e] at h1 ha
                  have ha2 := (List.pairwise_append.mp ha).2.1
                  rw [List.pairwise_cons] at ha2
                  rcases List.mem_append.mp h1 with h | h
                  · have := hp _ h; omega
                  · rcases List.mem_cons.mp h with h | h
                    · omega
                    · have := ha2.1 _ h; omega
                go_wp2_with fail
                go_roundg g
                case measure => omega
                case rel => exact ⟨i + 1, c + 1, x :: rest, by omega, by omega, by push_cast; congr 1; omega, by go_num, by omega, by omega, HII.out, Lib.hid (by obtain ⟨pre, e, hp⟩ := HP.out; exact ⟨pre, e, fun v hv => by have := hp v hv; omega⟩), Lib.hid (by rw [ES.out, EK.out, HC.out, decide_eq_false EN.out]; simp), rfl⟩
      · have hd1 : decide (from_ + (i : Int) ≤ to_) = false := decide_eq_false (by omega)
        obtain rfl : i = (to_ - from_ + 1).toNat := by omega
        have HI := Lib.hid hI
        clear hI
        go_wp2_with fail
        rw [Exit.noGoto_ret]
        go_ret2
        exact ⟨ret2E HC.out, HB.out⟩
theorem work_ok (a : Option Addr) (n cap : Nat) (hs : List Cal.Hol) (hn : n ≤ 1024) (from_ to_ : Int) (f0 : 0 ≤ from_) (f1 : from_ ≤ 84005) (t0 : 0 ≤ to_) (t1 : to_ ≤ 84005) (hv : hs.all Cal.Hol.ok = true) (w : World) (hr : HolRow w w.heap.size a n hs) (hl : LgIs w) :
    Calls Tryz.prog 55 #[.slice a n cap, .int .i64 from_, .int .i64 to_] w fun e w' => e = .returned (.tuple #[.int .i64 (Cal.cnt (Cal.nmAll hs) from_ (to_ - from_ + 1).toNat), .int .i64 0]) ∧ Below w.heap.size w w' := by
  obtain ⟨yf, _, _, hf⟩ := Cal.date_ex from_ f0 f1
  obtain ⟨yt, _, _, ht⟩ := Cal.date_ex to_ t0 t1
  exact work_z (Cal.nmAll hs) a n cap hs hn from_ to_ yf yt f0 f1 t0 t1 hf.year ht.year hf.y0 hf.y1 ht.y0 ht.y1 hv (fun d d0 d1 => Cal.near_all hs hv from_ to_ yf yt _ _ hf.year ht.year rfl (by have := hf.y0; have := hf.y1; have := ht.y0; have := ht.y1; omega) d d0 d1) w hr hl
end Go.Proofs.YtmgglcfndhfceaaGreatDoor
