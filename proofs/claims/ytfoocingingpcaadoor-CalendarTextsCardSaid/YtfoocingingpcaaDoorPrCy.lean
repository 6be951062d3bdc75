/-
  Layer 3 (calendar): contracts of twoDigits and Format, and of the sanity check that every statement of the layer ends with. Condition: the listed variables read as the program's text lays them.
-/
import Derived.Test.YtfoocingingpcaaDoorPrCx
import Derived.Lib.AppendIntMem
import Derived.Lib.ItoaLen
namespace Go.Proofs.YtfoocingingpcaaDoor
open Go Go.RowKit Go.Lib Go.Sort

/-- The listed variables read as the program's text lays them. -/
structure OKC (w : World) : Prop where
  tab : Lib.TabIs Tryd.prog w "internal/strconv.uint64pow10" .u64 Lib.pow10Tab
  lg : LgIs w
theorem tab_below {w w' : World} {n : String} {k : IntKind} {zs : List Int} (h : Lib.TabIs Tryd.prog w n k zs) (hb : Below w.heap.size w w') : Lib.TabIs Tryd.prog w' n k zs := by
  unfold Lib.TabIs World.var? at h ⊢
  cases hg : Tryd.prog.globalNamed n with
  | none => simp [hg] at h
  | some g =>
    simp only [hg, Option.bind_some] at h ⊢
    have hlt : g < w.heap.size := by
      rcases Nat.lt_or_ge g w.heap.size with h' | h'
      · exact h'
      · rw [Array.getElem?_eq_none h'] at h; cases h
    rw [hb.block g hlt]
    exact h
theorem OKC.below {w w' : World} (h : OKC w) (hb : Below w.heap.size w w') : OKC w' := ⟨tab_below h.tab hb, h.lg.below hb⟩

theorem itoa_any (n : Int) (h0 : -9223372036854775808 ≤ n) (h1 : n ≤ 9223372036854775807) (w : World) (h : OKC w) :
    Calls Tryd.prog 68 #[.int .i64 n] w fun e w' => e = .returned (.string ⟨(Lib.itoa n).toArray⟩) ∧ Below w.heap.size w w' :=
  (Tryd.strconv_Itoa n h0 h1 w h.tab).mono fun e w' ⟨he, k, os, hw⟩ => ⟨he, by
    subst hw
    exact Lib.below_grow _ _ (Nat.le_refl _) _ _⟩
theorem itoa_small (n : Int) (h0 : 0 ≤ n) (h1 : n ≤ 99) (w : World) :
    Calls Tryd.prog 68 #[.int .i64 n] w fun e w' => e = .returned (.string ⟨(Lib.decDigits n.toNat).toArray⟩) ∧ w = w' := by
  obtain ⟨i, rfl⟩ := Int.eq_ofNat_of_zero_le h0
  exact (Tryd.strconv_Itoa_small i (by omega) w).mono fun e w' ⟨he, hw⟩ => ⟨he, hw.symm⟩
theorem bapp (a b : List UInt8) : (⟨(a ++ b).toArray⟩ : ByteArray) = ⟨a.toArray⟩ ++ ⟨b.toArray⟩ := ByteArray.ext (by simp)
theorem retS {a b : List UInt8} (h : a = b) : Ending.returned (.string ⟨a.toArray⟩) = .returned (.string ⟨b.toArray⟩) := by rw [h]

/-- Two digits. -/
def twoL (n : Int) : List UInt8 := Lib.decDigits (n / 10).toNat ++ Lib.decDigits (n % 10).toNat
theorem dec1 (i : Nat) (h : i < 10) : (Lib.decDigits i).length = 1 := by rw [Lib.decDigits_one h]; rfl
theorem twoL_len (n : Int) (h0 : 0 ≤ n) (h1 : n ≤ 99) : (twoL n).length = 2 := by
  unfold twoL; rw [List.length_append, dec1 _ (by omega), dec1 _ (by omega)]
/-- The text of a date. -/
def dateL (y k d : Int) : List UInt8 := Lib.itoa y ++ [45] ++ twoL k ++ [45] ++ twoL d

set_option maxRecDepth 100000 in
set_option maxHeartbeats 400000 in
theorem two_any (n : Int) (h0 : 0 ≤ n) (h1 : n ≤ 99) (w : World) :
    Calls Tryd.prog 69 #[.int .i64 n] w fun e w' => e = .returned (.string ⟨(twoL n).toArray⟩) ∧ w = w' := by
  have l1 := dec1 (n / 10).toNat (by omega)
  have l2 := dec1 (n % 10).toNat (by omega)
  have k2 : ¬ 9223372036854775807 < (Lib.decDigits (n / 10).toNat).length + (Lib.decDigits (n % 10).toNat).length := by omega
  have L := Lib.hid (And.intro l1 l2)
  clear l1 l2
  go_enter Tryd.func69, Tryd.ntmps69
  go_wp2_with (go_at_call 68; (with_reducible refine (itoa_small _ (by omega) (by omega) _).mono ?_); rintro e w' ⟨rfl, rfl⟩)
  go_ret
  exact ⟨by unfold twoL; rw [bapp]; rfl, rfl⟩

set_option maxRecDepth 100000 in
set_option maxHeartbeats 1000000 in
theorem fmt_no (day : Int) (h : day < 0 ∨ 84005 < day) (w : World) :
    Calls Tryd.prog 43 #[.int .i64 day] w fun e w' => e = .returned (.string ⟨#[]⟩) ∧ w = w' := by
  go_enter Tryd.func43, Tryd.ntmps43
  go_wp2_with (go_at_call 24; (with_reducible refine (date_no _ h _).mono ?_); rintro e w' ⟨rfl, rfl⟩)
  go_ret
  exact ⟨rfl, rfl⟩
set_option maxRecDepth 100000 in
set_option maxHeartbeats 1000000 in
theorem fmt_yes (day y k d : Int) (h : Cal.DateIs day y k d) (w : World) (hok : OKC w) :
    Calls Tryd.prog 43 #[.int .i64 day] w fun e w' => e = .returned (.string ⟨(dateL y (k + 1) (d + 1)).toArray⟩) ∧ Below w.heap.size w w' := by
  have H := Lib.hid h
  have hl := hok.lg
  obtain ⟨y0, y1, k0, k1, d0, d1, eq⟩ := h
  have d2 : d ≤ 30 := by have := Cal.dm_bd y k; omega
  have l1 := Lib.itoa_length_le y (by omega) (by omega)
  have l2 := twoL_len (k + 1) (by omega) (by omega)
  have l3 := twoL_len (d + 1) (by omega) (by omega)
  have j1 : ¬ 9223372036854775807 < (Lib.itoa y).length + 1 := by omega
  have j2 : ¬ 9223372036854775807 < (Lib.itoa y).length + 1 + (twoL (k + 1)).length := by omega
  have j3 : ¬ 9223372036854775807 < (Lib.itoa y).length + 1 + (twoL (k + 1)).length + 1 := by omega
  have j4 : ¬ 9223372036854775807 < (Lib.itoa y).length + 1 + (twoL (k + 1)).length + 1 + (twoL (d + 1)).length := by omega
  clear d1 eq l2 l3
  go_enter Tryd.func43, Tryd.ntmps43
  go_wp2_with (go_at_call 24; (with_reducible refine (date_yes _ y k d H.out _ hl).mono ?_); rintro e w' ⟨rfl, rfl⟩)
  refine (itoa_any _ (by omega) (by omega) _ hok).mono ?_
  rintro e w1 ⟨rfl, hw1⟩
  go_wp2_with (go_at_call 69; (with_reducible refine (two_any _ (by omega) (by omega) _).mono ?_); rintro e w' ⟨rfl, rfl⟩)
  go_ret
  exact ⟨by unfold dateL; rw [bapp, bapp, bapp, bapp]; rfl, hw1⟩
end Go.Proofs.YtfoocingingpcaaDoor
