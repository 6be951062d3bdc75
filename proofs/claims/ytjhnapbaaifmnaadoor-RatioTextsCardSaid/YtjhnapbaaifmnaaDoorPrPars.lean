/-
  Layer 1 (ratio): contracts of the library's Cut at the slash, of Atoi at every string, and of Parse. Conditions: the string takes at most 2^48 bytes; the listed variables read as laid.
-/
import Derived.Test.YtjhnapbaaifmnaaDoorPrFmt
import Derived.Lib.IndexLaws
import Derived.Lib.AtoiAllCases
import Derived.WalkSpells
import Derived.Lib.AtoiErrMem
namespace Go.Proofs.YtjhnapbaaifmnaaDoor
open Go Go.RowKit Go.Lib

theorem idx_cases (l : List UInt8) (c : UInt8) : Lib.indexByte l c = -1 ∨ ∃ o : Nat, Lib.indexByte l c = o ∧ o < l.length := by
  have hge := Lib.indexByte_ge l c
  by_cases h : Lib.indexByte l c = -1
  · exact .inl h
  · obtain ⟨o, ho⟩ := Int.eq_ofNat_of_zero_le (show 0 ≤ Lib.indexByte l c by omega)
    exact .inr ⟨o, ho, by
      have := (Lib.indexByte_some ho).1
      rcases Nat.lt_or_ge o l.length with h1 | h1
      · exact h1
      · rw [List.getElem?_eq_none h1] at this; cases this⟩

set_option maxHeartbeats 1000000 in
theorem scut_no (s : ByteArray) (h : Hid (Lib.indexByte s.data.toList 47 = -1)) (w : World) :
    Calls Tryd.prog 52 #[.string s, .string ⟨#[47]⟩] w fun e w' => e = .returned (.tuple #[.string s, .string ⟨#[]⟩, .bool false]) ∧ w = w' := by
  go_enter Tryd.func52, Tryd.ntmps52
  go_wp2_with (go_at_call 57; refine (Tryd.stringslite_Index_one s 47 _).mono ?_; rw [h.out]; rintro e w' ⟨rfl, rfl⟩)
  go_ret3
  exact ⟨rfl, rfl⟩

set_option maxHeartbeats 1000000 in
theorem scut_yes (s : ByteArray) (o : Nat) (ho : o < s.size) (hs : s.size ≤ 9223372036854775807) (h : Hid (Lib.indexByte s.data.toList 47 = (o : Int))) (w : World) :
    Calls Tryd.prog 52 #[.string s, .string ⟨#[47]⟩] w fun e w' => e = .returned (.tuple #[.string (s.extract 0 o), .string (s.extract (o + 1) s.size), .bool true]) ∧ Below w.heap.size w w' := by
  have b1 : (o : Int) ≤ (s.size : Int) := by omega
  have b2 : (o : Int) + 1 ≤ (s.size : Int) := by omega
  have b3 : IntKind.i64.wrap ((o : Int) + 1) = (o : Int) + 1 := IntWalk.i64_in _ (by omega)
  have b4 : (0 : Int) ≤ (o : Int) := by omega
  have b5 : (0 : Int) ≤ (o : Int) + 1 := by omega
  have b6 : ((o : Int) + 1).toNat = o + 1 := by omega
  go_enter Tryd.func52, Tryd.ntmps52
  go_wp2_with (go_at_call 57; refine (Tryd.stringslite_Index_one s 47 _).mono ?_; rw [h.out]; rintro e w' ⟨rfl, rfl⟩)
  go_quiet (fail)
  go_wp2
  go_ret3
  exact ⟨rfl, below_drewN (Below.refl _ _) _⟩

set_option maxHeartbeats 1000000 in
theorem cut_no (s : ByteArray) (h : Hid (Lib.indexByte s.data.toList 47 = -1)) (w : World) :
    Calls Tryd.prog 45 #[.string s, .string ⟨#[47]⟩] w fun e w' => e = .returned (.tuple #[.string s, .string ⟨#[]⟩, .bool false]) ∧ Below w.heap.size w w' := by
  go_enter Tryd.func45, Tryd.ntmps45
  go_wp2_with (go_at_call 52; refine (scut_no s h _).mono ?_; rintro e w' ⟨rfl, rfl⟩)
  go_ret3
  exact ⟨rfl, Below.refl _ _⟩

set_option maxHeartbeats 1000000 in
theorem cut_yes (s : ByteArray) (o : Nat) (ho : o < s.size) (hs : s.size ≤ 9223372036854775807) (h : Hid (Lib.indexByte s.data.toList 47 = (o : Int))) (w : World) :
    Calls Tryd.prog 45 #[.string s, .string ⟨#[47]⟩] w fun e w' => e = .returned (.tuple #[.string (s.extract 0 o), .string (s.extract (o + 1) s.size), .bool true]) ∧ Below w.heap.size w w' := by
  go_enter Tryd.func45, Tryd.ntmps45
  go_wp2_with (go_at_call 52; refine (scut_yes s o ho hs h _).mono ?_; rintro e w' ⟨rfl, hb⟩)
  go_ret3
  exact ⟨rfl, hb⟩

/-- The number that a string spells, if an int holds it. -/
def numOf (s : ByteArray) : Option Int := match Lib.atoiAll s.data.toList with | .ok v => some v | _ => none
theorem numOf_bd {s : ByteArray} {v : Int} (h : numOf s = some v) : -9223372036854775808 ≤ v ∧ v ≤ 9223372036854775807 := by
  unfold numOf at h
  split at h
  · rename_i v' h'; cases h; exact Lib.atoiAll_bounds h'
  · cases h
theorem atoi_yes (s : ByteArray) (v : Int) (hs : s.size ≤ 281474976710656) (h : Hid (numOf s = some v)) (w : World) :
    Calls Tryd.prog 46 #[.string s] w fun e w' => e = .returned (.tuple #[.int .i64 v, .nilIface]) ∧ Below w.heap.size w w' := by
  have h' : Lib.atoiAll s.data.toList = .ok v := by
    have := h.out; unfold numOf at this; split at this
    · rename_i v' h'; cases this; exact h'
    · cases this
  refine (Tryd.strconv_Atoi_ok s (by omega) v h' w).mono fun e w' ⟨he, hw⟩ => ⟨he, ?_⟩
  rcases hw with rfl | ⟨t, rfl⟩
  · exact Below.refl _ _
  · exact Lib.bytesWorld_below _ _ _
def BadAtoi (w : World) (e : Ending) (w' : World) : Prop := ∃ x p, e = .returned (.tuple #[.int .i64 x, .iface 77 p]) ∧ Below w.heap.size w w'
theorem atoi_no (s : ByteArray) (hs : s.size ≤ 281474976710656) (h : Hid (numOf s = none)) (w : World) (hok : OKW w) :
    Calls Tryd.prog 46 #[.string s] w (BadAtoi w) := by
  obtain ⟨te, pe, hsy⟩ := hok.syn
  obtain ⟨tr, pr, hrg⟩ := hok.rng
  rcases ha : Lib.atoiAll s.data.toList with v | _ | _
  · exact absurd h.out (by unfold numOf; rw [ha]; intro e; cases e)
  · have hc : Calls Tryd.prog 46 #[.string s] w fun e w' => ∃ N, e = .returned (.tuple #[.int .i64 0, .iface 77 (.pointer (some ⟨N, 0, none⟩))]) ∧ w.heap.size ≤ N ∧ w'.heap[N]? = some (.cells #[.string ⟨#[65, 116, 111, 105]⟩, .string s, .iface te pe] 90 (0, 0)) ∧ Below w.heap.size w w' :=
      Any.strconv_Atoi_syntax Tryd.laysC172 s hs ha _ w hsy (.inr ⟨_, _, rfl⟩)
    exact hc.mono fun e w' ⟨N, he, _, _, hb⟩ => ⟨_, _, he, hb⟩
  · have hc : Calls Tryd.prog 46 #[.string s] w fun e w' => ∃ N, e = .returned (.tuple #[.int .i64 (Lib.atoiSat s.data.toList), .iface 77 (.pointer (some ⟨N, 0, none⟩))]) ∧ w.heap.size ≤ N ∧ w'.heap[N]? = some (.cells #[.string ⟨#[65, 116, 111, 105]⟩, .string s, .iface tr pr] 90 (0, 0)) ∧ Below w.heap.size w w' :=
      Any.strconv_Atoi_range Tryd.laysC172 s hs ha _ w hrg (.inr ⟨_, _, rfl⟩)
    exact hc.mono fun e w' ⟨N, he, _, _, hb⟩ => ⟨_, _, he, hb⟩

/-- What Parse reads, before it compares: the two numbers. -/
def numsOf (s : ByteArray) : Option (Int × Int) :=
  if Lib.indexByte s.data.toList 47 < 0 then (numOf s).map fun n => (n, 1)
  else (numOf (s.extract 0 (Lib.indexByte s.data.toList 47).toNat)).bind fun n => (numOf (s.extract ((Lib.indexByte s.data.toList 47).toNat + 1) s.size)).map fun d => (n, d)
/-- What Parse computes. -/
def parsT (s : ByteArray) : Int × Int × Bool := match numsOf s with
  | some (n, d) => if fmtL n d == s.toList then (n, d, true) else (0, 0, false)
  | none => (0, 0, false)
def retP (t : Int × Int × Bool) : Value := .tuple #[.agg #[.int .i64 t.1, .int .i64 t.2.1], .bool t.2.2]
end Go.Proofs.YtjhnapbaaifmnaaDoor
