/-
  Layer 6 (timeline): the law's sanity check holds. No condition.
-/
import Derived.Test.YtdpgmjmmnjbbiaaPrUo
namespace Go.Proofs.Ytdpgmjmmnjbbiaa.Tl
open Go Go.RowKit Go.Lib Go.Sort Go.Shelf Go.Proofs Go.Proofs.Ytdpgmjmmnjbbiaa Go.Proofs.Ytdpgmjmmnjbbiaa.Tp
set_option linter.unusedVariables false

/-- The chapter's example. -/
def L0 : List Chg := [⟨10, 1, 5, false⟩, ⟨20, 2, 7, false⟩, ⟨10, 3, 6, false⟩, ⟨20, 4, 0, true⟩]
instance (l : List Chg) (k : Int) (x : Chg) : Decidable (counts l k x) := by unfold counts; exact inferInstance
theorem L0_in2 : inL L0 2 = [⟨10, 1, 5, false⟩, ⟨20, 2, 7, false⟩] := by
  refine (inL_unique L0 2 _ (by decide) fun x => ?_).symm
  constructor
  · intro h
    simp only [List.mem_cons, List.not_mem_nil, or_false] at h
    rcases h with rfl | rfl <;> decide
  · rintro ⟨h, hd, hc⟩
    simp only [L0, List.mem_cons, List.not_mem_nil, or_false] at h
    rcases h with rfl | rfl | rfl | rfl
    · simp
    · simp
    · exact absurd hc (by decide)
    · exact absurd hd (by decide)
theorem L0_in4 : inL L0 4 = [⟨10, 3, 6, false⟩] := by
  refine (inL_unique L0 4 _ (by decide) fun x => ?_).symm
  constructor
  · intro h
    simp only [List.mem_cons, List.not_mem_nil, or_false] at h
    subst h; decide
  · rintro ⟨h, hd, hc⟩
    simp only [L0, List.mem_cons, List.not_mem_nil, or_false] at h
    rcases h with rfl | rfl | rfl | rfl
    · exact absurd hc (by decide)
    · exact absurd hc (by decide)
    · simp
    · exact absurd hd (by decide)
theorem L0_val : valE L0 = 0 := by decide
theorem L0_at1 : atO L0 15 2 = some 5 ∧ atE L0 15 = 0 := by
  refine ⟨?_, by decide⟩
  unfold atO valL
  rw [L0_in2, if_pos (by decide)]; rfl
theorem L0_at2 : atO L0 25 4 = some 6 ∧ atE L0 25 = 0 := by
  refine ⟨?_, by decide⟩
  unfold atO valL
  rw [L0_in4, if_pos (by decide)]; rfl
theorem L0_chk : chkE L0 0 30 = 0 := by decide
theorem L0_dif : difA L0 2 4 0 30 = [⟨10, 30, 0⟩] := by
  unfold difA difL valL
  rw [if_pos L0_chk, L0_in2, L0_in4]
  rfl
theorem L0_un : unionL L0 L0 = [⟨10, 1, 5, false⟩, ⟨10, 3, 6, false⟩, ⟨20, 2, 7, false⟩, ⟨20, 4, 0, true⟩] := by
  refine (unionL_unique L0 L0 _ (by decide) fun x => ?_).symm
  simp only [L0, List.mem_cons, List.not_mem_nil, or_false, or_self]
  constructor
  · rintro (h | h | h | h) <;> simp [h]
  · rintro (h | h | h | h) <;> simp [h]
theorem L0_mrg : mrgE L0 L0 = 0 ∧ (mrgL L0 L0).length = 4 := by
  have e : mrgE L0 L0 = 0 := by
    unfold mrgE
    rw [if_neg (by simp [L0_val]), if_neg (by simp [L0_val]), L0_un]; rfl
  refine ⟨e, ?_⟩
  unfold mrgL
  rw [if_pos e, L0_un]; rfl
/-- A list written out in one block. -/
theorem lst_lit (w : World) (cs : Array Value) (l : List Chg) (h : cs.toList = fl l) (hl : l.length ≤ 100) (t : TypeId) : Lst (w.alloc (.cells cs t)) (some ⟨w.heap.size, 0, none⟩) l.length l.length l := by
  refine ⟨⟨rfl, fun _ => ⟨_, rfl, by simp, fun i hi => ?_⟩⟩, fun h => (by cases h), by omega⟩
  obtain ⟨b0, b1, b2, b3⟩ := fl_at l i hi
  rw [← h] at b0 b1 b2 b3
  rw [add_z]
  have k : ∀ j u, cs.toList[j]? = some u → (w.alloc (.cells cs t)).cell? ⟨w.heap.size, j, none⟩ = some u := fun j u hu => by
    rw [World.cell?_alloc_at _ _ _ _ rfl]
    simpa using hu
  exact ⟨k _ _ b0, k _ _ b1, k _ _ b2, k _ _ b3⟩
def TrueR (w : World) (e : Ending) (w' : World) : Prop := e = .returned (.bool true) ∧ Below w.heap.size w w'
set_option maxRecDepth 100000 in
set_option maxHeartbeats 4000000 in
theorem sane_any (w : World) : Calls Try.prog 12 #[] w (TrueR w) := by
  have HL := Lib.hid (lst_lit w #[.int .i64 10, .int .i64 1, .int .i64 5, .bool false, .int .i64 20, .int .i64 2, .int .i64 7, .bool false, .int .i64 10, .int .i64 3, .int .i64 6, .bool false, .int .i64 20, .int .i64 4, .int .i64 0, .bool true] L0 rfl (by decide) 42)
  go_enter Try.func12, Try.ntmps12
  go_wp2_with fail
  refine (at_any _ 4 4 L0 15 2 _ HL.out).mono ?_
  rintro e w1 ⟨rfl, b1⟩
  rw [L0_at1.1, L0_at1.2]
  have H1 := Lib.hid (HL.out.more b1)
  have B1 := Lib.hid (Below.trans ((Below.refl w.heap.size w).alloc (Nat.le_refl _) _) (b1.mono (by simp)))
  clear b1 HL
  go_wp2_with fail
  refine (at_any _ 4 4 L0 25 4 _ H1.out).mono ?_
  rintro e w2 ⟨rfl, b2⟩
  rw [L0_at2.1, L0_at2.2]
  have H2 := Lib.hid (H1.out.more b2)
  have B2 := Lib.hid (B1.out.trans (b2.mono B1.out.size))
  clear b2 H1 B1
  go_wp2_with fail
  refine (diff_any _ 4 4 L0 2 4 0 30 _ H2.out).mono ?_
  rintro e w3 ⟨x3, c3, rfl, r3, b3⟩
  rw [L0_dif] at r3
  rw [L0_dif, L0_chk]
  have H3 := Lib.hid (H2.out.more b3)
  have B3 := Lib.hid (B2.out.trans (b3.mono B2.out.size))
  obtain ⟨g, rfl, _, _, hc⟩ := r3 (by decide)
  have z := hc 0 (by decide)
  have HZ : Hid (w3.cell? ⟨g, 0, none⟩ = some (.int .i64 10) ∧ w3.cell? ⟨g, 1, none⟩ = some (.int .i64 30) ∧ g < w3.heap.size) := Lib.hid ⟨z.1, z.2, World.block_lt_of_cell? w3 _ z.1⟩
  clear b3 H2 B2 r3 hc z
  go_wp2_with fail
  refine (merge_any _ 4 4 L0 _ 4 4 L0 _ H3.out H3.out).mono ?_
  rintro e w4 ⟨x4, c4, rfl, _, b4⟩
  rw [L0_mrg.1, L0_mrg.2]
  have B4 := Lib.hid (B3.out.trans (b4.mono B3.out.size))
  have z0 : w4.cell? ⟨g, 0, none⟩ = some (.int .i64 10) := (b4.cell HZ.out.2.2).trans HZ.out.1
  have z1 : w4.cell? ⟨g, 1, none⟩ = some (.int .i64 30) := (b4.cell HZ.out.2.2).trans HZ.out.2.1
  clear b4 H3 B3 HZ
  go_wp2_with fail
  go_ret
  exact ⟨rfl, B4.out⟩
end Go.Proofs.Ytdpgmjmmnjbbiaa.Tl
