/-
  Layer 3 (calendar): contracts of twoDigits and Format, and of the sanity check that every statement of the layer ends with. Condition: the listed variables read as the program's text lays them.
-/
import Derived.Test.YtcdilaembophlaaGreatDoorPrCx
import Derived.Lib.AppendIntMem
import Derived.Lib.ItoaLen
namespace Go.Proofs.YtcdilaembophlaaGreatDoor
open Go Go.RowKit Go.Lib Go.Sort

/-- The listed variables read as the program's text lays them. -/
structure OKC (w : World) : Prop where
  tab : Lib.TabIs Tryz.prog w "internal/strconv.uint64pow10" .u64 Lib.pow10Tab
  lg : LgIs w
theorem tab_below {w w' : World} {n : String} {k : IntKind} {zs : List Int} (h : Lib.TabIs Tryz.prog w n k zs) (hb : Below w.heap.size w w') : Lib.TabIs Tryz.prog w' n k zs := by
  unfold Lib.TabIs World.var? at h ⊢
  cases hg : Tryz.prog.globalNamed n with
  | none => simp [hg] at h
  | some g =>
    simp only [hg, Option.bind_some] at h ⊢
    have hlt : g < w.heap.size := by
      rcases Nat.lt_or_ge g w.heap.size with h' | h'
      · exact h'
      · rw [Array.getElem?_eq_none h'] at h; cases h
    rw [hb.block g hlt]
    exact h
theorem OKC.below {w w' : World} (h : OKC w) (hb : Below w.heap.size w w') : OKC w' := ⟨tab_below h.tab hb, h.lg.below hb⟩

theorem bapp (a b : List UInt8) : (⟨(a ++ b).toArray⟩ : ByteArray) = ⟨a.toArray⟩ ++ ⟨b.toArray⟩ := ByteArray.ext (by simp)
theorem retS {a b : List UInt8} (h : a = b) : Ending.returned (.string ⟨a.toArray⟩) = .returned (.string ⟨b.toArray⟩) := by rw [h]

/-- Two digits. -/
def twoL (n : Int) : List UInt8 := Lib.decDigits (n / 10).toNat ++ Lib.decDigits (n % 10).toNat
theorem dec1 (i : Nat) (h : i < 10) : (Lib.decDigits i).length = 1 := by rw [Lib.decDigits_one h]; rfl
theorem twoL_len (n : Int) (h0 : 0 ≤ n) (h1 : n ≤ 99) : (twoL n).length = 2 := by
  unfold twoL; rw [List.length_append, dec1 _ (by omega), dec1 _ (by omega)]
/-- The text of a date. -/
def dateL (y k d : Int) : List UInt8 := Lib.itoa y ++ [45] ++ twoL k ++ [45] ++ twoL d

end Go.Proofs.YtcdilaembophlaaGreatDoor
