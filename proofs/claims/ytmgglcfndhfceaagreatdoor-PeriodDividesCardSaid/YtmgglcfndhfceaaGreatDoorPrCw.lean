/-
  Layer 3 (calendar): the contract of Valid: the first error of a list of rules. Conditions: the list reads as rules; the table of month lengths reads as the program's text lays it.
-/
import Derived.Test.YtmgglcfndhfceaaGreatDoorPrCv
import Derived.Deep.LoopGhost
namespace Go.Proofs.YtmgglcfndhfceaaGreatDoor
open Go Go.RowKit Go.Lib

/-- The slice's cells hold these rules; it lies below block B. -/
def HolRow (w : World) (B : Nat) (a : Option Addr) (n : Nat) (hs : List Cal.Hol) : Prop :=
  hs.length = n ∧ (0 < n → ∃ x : Addr, a = some x ∧ x.block < B ∧ ∀ i (h : i < hs.length),
    w.cell? (x.add (i * 6)) = some (.int .i64 hs[i].kind) ∧ w.cell? ⟨(x.add (i * 6)).block, (x.add (i * 6)).off + 1, none⟩ = some (.int .i64 hs[i].month) ∧ w.cell? ⟨(x.add (i * 6)).block, (x.add (i * 6)).off + 2, none⟩ = some (.int .i64 hs[i].day) ∧
    w.cell? ⟨(x.add (i * 6)).block, (x.add (i * 6)).off + 3, none⟩ = some (.int .i64 hs[i].wday) ∧ w.cell? ⟨(x.add (i * 6)).block, (x.add (i * 6)).off + 4, none⟩ = some (.int .i64 hs[i].off) ∧ w.cell? ⟨(x.add (i * 6)).block, (x.add (i * 6)).off + 5, none⟩ = some (.bool hs[i].moved))
theorem addB (x : Addr) (i : Nat) : (x.add i).block = x.block := by unfold Addr.add; split <;> rfl
theorem HolRow.below {w w' : World} {B : Nat} {a : Option Addr} {n : Nat} {hs : List Cal.Hol} (h : HolRow w B a n hs) (hb : Below B w w') : HolRow w' B a n hs := by
  refine ⟨h.1, fun hn => ?_⟩
  obtain ⟨x, ha, hx, hc⟩ := h.2 hn
  have k : ∀ j, w'.cell? (x.add j) = w.cell? (x.add j) := fun j => hb.cell (by rw [addB]; exact hx)
  have k' : ∀ i j, w'.cell? ⟨(x.add i).block, j, none⟩ = w.cell? ⟨(x.add i).block, j, none⟩ := fun i j => hb.cell (by show (x.add i).block < B; rw [addB]; exact hx)
  exact ⟨x, ha, hx, fun i hi => by rw [k, k', k', k', k', k']; exact hc i hi⟩

theorem allOk_snoc (hs : List Cal.Hol) (k : Nat) (hk : k < hs.length) : (hs.take (k + 1)).all Cal.Hol.ok = ((hs.take k).all Cal.Hol.ok && hs[k].ok) := by
  rw [List.take_succ_eq_append_getElem hk, List.all_append]; simp

/-- The error of Valid, for at most MaxList rules. -/
def vlE (hs : List Cal.Hol) : Int := if hs.all Cal.Hol.ok then 0 else 1

set_option maxRecDepth 100000 in
set_option maxHeartbeats 1000000 in
theorem validL_any (a : Option Addr) (n cap : Nat) (hs : List Cal.Hol) (hn : n ≤ 1024) (w : World) (hr : HolRow w w.heap.size a n hs) (hl : LgIs w) :
    Calls Tryz.prog 38 #[.slice a n cap] w fun e w' => e = .returned (.int .i64 (vlE hs)) ∧ Below w.heap.size w w' := by
  go_enter Tryz.func38, Tryz.ntmps38
  go_wp2
  go_loopw [10] (fun x wr => ∃ k : Nat, k ≤ n ∧ x = .int .i64 k ∧ Hid ((hs.take k).all Cal.Hol.ok = true) ∧ Below w.heap.size w wr) (fun x _ => n - (intOf x).toNat)
  case atStart => exact ⟨0, by omega, rfl, Lib.hid rfl, Below.refl _ _⟩
  case round =>
    obtain ⟨k, hk, rfl, HA, hB⟩ := hrel
    by_cases hlt : k < n
    · obtain ⟨hlen, hcs⟩ := hr.below hB
      obtain ⟨x, rfl, hx, hc⟩ := hcs (by omega)
      have hk' : k < hs.length := by omega
      obtain ⟨c0, c1, c2, c3, c4, c5⟩ := hc k hk'
      have S := Lib.hid (allOk_snoc hs k hk')
      generalize hh : hs[k] = h at *
      clear hc hcs
      have hl1 := hl.below hB
      rcases hv : h.ok with _ | _
      · have HV := Lib.hid hv
        have C := Lib.hid (valid_any h)
        rw [hv] at C
        clear hv
        go_wp2_with fail
        refine (C.out _ (hl1.below (Below.alloc (Below.refl _ _) (Nat.le_refl _) _))).mono ?_
        rintro e w1 ⟨rfl, hw1⟩
        have hB1 : Below w.heap.size w w1 := hB.trans (((Below.alloc (Below.refl _ _) (Nat.le_refl _) _).trans (hw1.mono (by simp))).mono hB.size)
        clear hw1
        go_wp2_with fail
        go_ret
        refine ⟨retI ?_, hB1⟩
        have : hs.all Cal.Hol.ok = false := by
          rcases he : hs.all Cal.Hol.ok with _ | _
          · rfl
          · have := (List.all_eq_true.mp he) hs[k] (List.getElem_mem hk')
            rw [hh, HV.out] at this; cases this
        unfold vlE; rw [this]; rfl
      · have HV := Lib.hid hv
        have C := Lib.hid (valid_any h)
        rw [hv] at C
        clear hv
        go_wp2_with fail
        refine (C.out _ (hl1.below (Below.alloc (Below.refl _ _) (Nat.le_refl _) _))).mono ?_
        rintro e w1 ⟨rfl, hw1⟩
        have hB1 : Below w.heap.size w w1 := hB.trans (((Below.alloc (Below.refl _ _) (Nat.le_refl _) _).trans (hw1.mono (by simp))).mono hB.size)
        clear hw1
        go_wp2_with fail
        go_roundw
        case rel => exact ⟨k + 1, by omega, by go_num, Lib.hid (by rw [S.out, HA.out, HV.out]; rfl), hB1⟩
        case measure => simp [intOf]; omega
    · go_wp2
      go_ret
      refine ⟨retI ?_, hB⟩
      have : hs.all Cal.Hol.ok = true := by
        have := HA.out
        rwa [List.take_of_length_le (by have := hr.1; omega)] at this
      unfold vlE; rw [this]; rfl
/-- More than MaxList rules. -/
theorem validL_many (a : Option Addr) (n cap : Nat) (hn : 1024 < n) (hn' : n ≤ 9223372036854775807) (w : World) :
    Calls Tryz.prog 38 #[.slice a n cap] w fun e w' => e = .returned (.int .i64 3) ∧ w = w' := by
  go_enter Tryz.func38, Tryz.ntmps38
  go_wp2
  go_ret
  exact ⟨rfl, rfl⟩
end Go.Proofs.YtmgglcfndhfceaaGreatDoor
