/-
  Several texts in one; what each shows, and its conditions, stand ahead of it. No condition beside theirs.
-/
import Derived.Test.YtmgglcfndhfceaaGreatDoorPrCx
import Derived.Lib.AppendIntMem
import Derived.Lib.ItoaLen
/- Layer 3 (calendar): contracts of twoDigits and Format, and of the sanity check that every statement of the layer ends with. Condition: the listed variables read as the program's text lays them. -/
namespace Go.Proofs.YtmgglcfndhfceaaGreatDoor
open Go Go.RowKit Go.Lib Go.Sort

/-- The listed variables read as the program's text lays them. -/
structure OKC (w : World) : Prop where
  tab : Lib.TabIs Tryz.prog w "internal/strconv.uint64pow10" .u64 Lib.pow10Tab
  lg : LgIs w
theorem tab_below {w w' : World} {n : String} {k : IntKind} {zs : List Int} (h : Lib.TabIs Tryz.prog w n k zs) (hb : Below w.heap.size w w') : Lib.TabIs Tryz.prog w' n k zs := by
  unfold Lib.TabIs World.var? at h ⊢
  cases hg : Tryz.prog.globalNamed n with
  | none => simp [hg] at h
  | some g =>
    simp only [hg, Option.bind_some] at h ⊢
    have hlt : g < w.heap.size := by
      rcases Nat.lt_or_ge g w.heap.size with h' | h'
      · exact h'
      · rw [Array.getElem?_eq_none h'] at h; cases h
    rw [hb.block g hlt]
    exact h
theorem OKC.below {w w' : World} (h : OKC w) (hb : Below w.heap.size w w') : OKC w' := ⟨tab_below h.tab hb, h.lg.below hb⟩

theorem bapp (a b : List UInt8) : (⟨(a ++ b).toArray⟩ : ByteArray) = ⟨a.toArray⟩ ++ ⟨b.toArray⟩ := ByteArray.ext (by simp)
theorem retS {a b : List UInt8} (h : a = b) : Ending.returned (.string ⟨a.toArray⟩) = .returned (.string ⟨b.toArray⟩) := by rw [h]

/-- Two digits. -/
def twoL (n : Int) : List UInt8 := Lib.decDigits (n / 10).toNat ++ Lib.decDigits (n % 10).toNat
theorem dec1 (i : Nat) (h : i < 10) : (Lib.decDigits i).length = 1 := by rw [Lib.decDigits_one h]; rfl
theorem twoL_len (n : Int) (h0 : 0 ≤ n) (h1 : n ≤ 99) : (twoL n).length = 2 := by
  unfold twoL; rw [List.length_append, dec1 _ (by omega), dec1 _ (by omega)]
/-- The text of a date. -/
def dateL (y k d : Int) : List UInt8 := Lib.itoa y ++ [45] ++ twoL k ++ [45] ++ twoL d

end Go.Proofs.YtmgglcfndhfceaaGreatDoor
/- Layer 3 (calendar): the contract of the sanity check that every statement of the layer ends with: it is true. Condition: the listed variables read as the program's text lays them. -/
namespace Go.Proofs.YtmgglcfndhfceaaGreatDoor
open Go Go.RowKit Go.Lib Go.Sort

theorem s_is : Cal.Is 2026 11 16 := by decide
theorem s_day : Cal.dayT 2026 11 16 = 20773 := by decide
theorem s_date1 : Cal.DateIs 20849 2027 0 30 := ⟨by decide, by decide, by decide, by decide, by decide, by decide, by decide⟩
theorem s_add : Cal.fst (12 * (2027 - 1970) + 0 + 1) + min (30 + 1) (Cal.len (12 * (2027 - 1970) + 0 + 1)) - 1 = 20877 := by decide
theorem s_date2 : Cal.DateIs 20877 2027 1 27 := ⟨by decide, by decide, by decide, by decide, by decide, by decide, by decide⟩
theorem s_date3 : Cal.DateIs 20548 2026 3 4 := ⟨by decide, by decide, by decide, by decide, by decide, by decide, by decide⟩
theorem s_ea : Cal.eaT 2026 = 20548 := by decide
theorem s_wd : Cal.wd 20773 = 0 := by decide
theorem dd2 (a b : Nat) (ha : 0 < a) (hb : b < 10) (h : a < 10) : Lib.decDigits (10 * a + b) = [UInt8.ofNat (48 + a), UInt8.ofNat (48 + b)] := by
  rw [Lib.decDigits, dif_neg (by omega), show (10 * a + b) / 10 = a by omega, show (10 * a + b) % 10 = b by omega, Lib.decDigits_one h]; rfl
theorem s_y (b : Nat) (hb : b < 10) : Lib.itoa (2020 + b : Nat) = [50, 48, 50, UInt8.ofNat (48 + b)] := by
  show Lib.decDigits (2020 + b) = _
  rw [Lib.decDigits, dif_neg (by omega), show (2020 + b) / 10 = 202 by omega, show (2020 + b) % 10 = b by omega, Lib.decDigits, dif_neg (by omega), show 202 / 10 = 10 * 2 + 0 from rfl, dd2 2 0 (by omega) (by omega) (by omega)]; rfl
theorem s_t1 : dateL 2027 (1 + 1) (27 + 1) = [50, 48, 50, 55, 45, 48, 50, 45, 50, 56] := by
  unfold dateL twoL
  rw [show (2027 : Int) = ((2020 + 7 : Nat) : Int) from rfl, s_y 7 (by omega), Lib.decDigits_one (by decide), Lib.decDigits_one (by decide), Lib.decDigits_one (by decide), Lib.decDigits_one (by decide)]; rfl
theorem s_t2 : dateL 2026 (3 + 1) (4 + 1) = [50, 48, 50, 54, 45, 48, 52, 45, 48, 53] := by
  unfold dateL twoL
  rw [show (2026 : Int) = ((2020 + 6 : Nat) : Int) from rfl, s_y 6 (by omega), Lib.decDigits_one (by decide), Lib.decDigits_one (by decide), Lib.decDigits_one (by decide), Lib.decDigits_one (by decide)]; rfl
def sH : Cal.Hol := ⟨2, 11, 4, 3, 0, false⟩
theorem s_one : Cal.oneY [sH] 2026 = [20783] := by decide
theorem s_can : canon (Cal.oneY [sH] 2026) = [20783] := by
  rw [s_one]
  exact Cal.asc_ext _ _ (canon_asc _) (by simp) fun v => mem_canon _ v
theorem s_ok : [sH].all Cal.Hol.ok = true := by decide

theorem c_day (w : World) (hl : LgIs w) : Calls Tryz.prog 94 #[.int .i64 2026, .int .i64 11, .int .i64 16] w fun e w' => e = .returned (.tuple #[.int .i64 20773, .bool true]) ∧ w = w' := by
  have h := day_yes 2026 11 16 s_is w hl; rwa [s_day] at h
theorem c_ea (w : World) (hl : LgIs w) : Calls Tryz.prog 95 #[.int .i64 2026] w fun e w' => e = .returned (.tuple #[.int .i64 20548, .bool true]) ∧ w = w' := by
  have h := easter_yes 2026 (by decide) (by decide) w hl; rwa [s_ea] at h
end Go.Proofs.YtmgglcfndhfceaaGreatDoor
/- Layer 3 (calendar): the contracts of days told by month and day of the month; the walks of CalendarEaster, CalendarInverse, CalendarAddMonths: the answer is true. Condition: the listed variables read as the program's text lays them. -/
namespace Go.Proofs.YtmgglcfndhfceaaGreatDoor
open Go Go.RowKit Go.Lib Go.Sort

/-- Day 'day' is day d (from 0) of month number m. -/
structure MD (day m d : Int) : Prop where
  m0 : 0 ≤ m
  m1 : m ≤ 2759
  d0 : 0 ≤ d
  d1 : d < Cal.len m
  eq : day = Cal.fst m + d
theorem MD.date {day m d : Int} (h : MD day m d) : Cal.DateIs day (1970 + m / 12) (m % 12) d := by
  rw [h.eq]; exact Cal.date_mk m d h.m0 h.m1 h.d0 h.d1
theorem md_num (m : Int) : 12 * (1970 + m / 12 - 1970) + m % 12 = m := by omega
theorem md_ex (day : Int) (h0 : 0 ≤ day) (h1 : day ≤ 84005) : ∃ m d, MD day m d := by
  obtain ⟨y, k, d, h⟩ := Cal.date_ex day h0 h1
  have e := h.month
  have := h.y0; have := h.y1; have := h.k0; have := h.k1
  exact ⟨12 * (y - 1970) + k, d, by omega, by omega, h.d0, by rw [e.2]; exact h.d1, by omega⟩
theorem MD.range {day m d : Int} (h : MD day m d) : 0 ≤ day ∧ day ≤ 84005 := h.date.range
theorem date_md (day m d : Int) (h : MD day m d) (w : World) (hl : LgIs w) :
    Calls Tryz.prog 78 #[.int .i64 day] w fun e w' => e = .returned (.tuple #[.int .i64 (1970 + m / 12), .int .i64 (m % 12 + 1), .int .i64 (d + 1), .bool true]) ∧ w = w' := date_yes day _ _ _ h.date w hl
theorem month_md (day m d : Int) (h : MD day m d) (w : World) (hl : LgIs w) :
    Calls Tryz.prog 64 #[.int .i64 day] w fun e w' => e = .returned (.int .i64 m) ∧ w = w' := by
  have c := month_yes day _ _ _ h.date w hl
  rwa [md_num] at c
theorem day_md (day m d : Int) (h : MD day m d) (w : World) (hl : LgIs w) :
    Calls Tryz.prog 94 #[.int .i64 (1970 + m / 12), .int .i64 (m % 12 + 1), .int .i64 (d + 1)] w fun e w' => e = .returned (.tuple #[.int .i64 day, .bool true]) ∧ w = w' := by
  have c := day_yes _ _ _ h.date.is.1 w hl
  rwa [h.date.is.2] at c
theorem MD.mk0 (m d : Int) (h0 : 0 ≤ m) (h1 : m ≤ 2759) (d0 : 0 ≤ d) (d1 : d < Cal.len m) : MD (Cal.fst m + d) m d := ⟨h0, h1, d0, d1, rfl⟩

end Go.Proofs.YtmgglcfndhfceaaGreatDoor
