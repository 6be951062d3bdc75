/-
  Layer 4 (clock): the reference: contracts of IsOffset, IsInstant, Valid, Shift, segment. Conditions: the zone's changes lie in their cells; for Shift and segment the zone is valid.
-/
import Derived.Test.YtbbfkpkibakieaaPrZs
import Derived.Deep.LoopGhost
namespace Go.Proofs.Ytbbfkpkibakieaa
open Go Go.RowKit Go.Lib

set_option maxHeartbeats 400000 in
theorem roff_yes (n : Int) (h0 : -840 ≤ n) (h1 : n ≤ 840) (w : World) :
    Calls Try.prog 41 #[.int .i64 n] w fun e w' => e = .returned (.bool true) ∧ w = w' := by
  go_enter Try.func41, Try.ntmps41
  go_wp2
  go_ret
  exact ⟨rfl, rfl⟩
set_option maxHeartbeats 400000 in
theorem roff_no (n : Int) (h : n < -840 ∨ 840 < n) (w : World) :
    Calls Try.prog 41 #[.int .i64 n] w fun e w' => e = .returned (.bool false) ∧ w = w' := by
  rcases h with h | h
  · go_enter Try.func41, Try.ntmps41
    go_wp2
    go_ret
    exact ⟨rfl, rfl⟩
  · have h' : -840 ≤ n := by omega
    have hf : decide (n ≤ 840) = false := by simp; omega
    go_enter Try.func41, Try.ntmps41
    go_wp2
    go_ret
    exact ⟨rfl, rfl⟩
set_option maxHeartbeats 400000 in
theorem rins_yes (n : Int) (h0 : 0 ≤ n) (h1 : n ≤ 120968639) (w : World) :
    Calls Try.prog 38 #[.int .i64 n] w fun e w' => e = .returned (.bool true) ∧ w = w' := by
  go_enter Try.func38, Try.ntmps38
  go_wp2
  go_ret
  exact ⟨rfl, rfl⟩
set_option maxHeartbeats 400000 in
theorem rins_no (n : Int) (h : n < 0 ∨ 120968639 < n) (w : World) :
    Calls Try.prog 38 #[.int .i64 n] w fun e w' => e = .returned (.bool false) ∧ w = w' := by
  rcases h with h | h
  · go_enter Try.func38, Try.ntmps38
    go_wp2
    go_ret
    exact ⟨rfl, rfl⟩
  · have h' : 0 ≤ n := by omega
    have hf : decide (n ≤ 120968639) = false := by simp; omega
    go_enter Try.func38, Try.ntmps38
    go_wp2
    go_ret
    exact ⟨rfl, rfl⟩

theorem ZBox.keep {w w' : World} {zb : Nat} {off : Int} {a : Option Addr} {n cap : Nat} (h : ZBox w zb off a n cap) (hb : Below w.heap.size w w') : ZBox w' zb off a n cap := (hb.block zb h.lt).trans h
theorem ZBox.more {w : World} {zb : Nat} {off : Int} {a : Option Addr} {n cap : Nat} (h : ZBox w zb off a n cap) (o : Obj) : ZBox (w.alloc o) zb off a n cap := (Below.heap_alloc w o zb h.lt).trans h
/-- The zone while a function of the reference runs. -/
structure RZ (w0 : World) (off : Int) (a : Option Addr) (n cap : Nat) (cs : List (Int × Int)) (w : World) : Prop where
  box : ZBox w w0.heap.size off a n cap
  row : ChRow w w.heap.size a n cs
  below : Below w0.heap.size w0 w
theorem RZ.new {w0 : World} {off : Int} {a : Option Addr} {n cap : Nat} {cs : List (Int × Int)} (h : ChRow w0 w0.heap.size a n cs) : RZ w0 off a n cap cs (w0.alloc (.cells #[.int .i64 off, .slice a n cap] 24)) :=
  ⟨ZBox.new w0 off a n cap, row_box h _, (Below.refl _ _).alloc (Nat.le_refl _) _⟩
theorem RZ.step {w0 w w' : World} {off : Int} {a : Option Addr} {n cap : Nat} {cs : List (Int × Int)} (h : RZ w0 off a n cap cs w) (hb : Below w.heap.size w w') : RZ w0 off a n cap cs w' :=
  ⟨h.box.keep hb, row_more h.row hb, h.below.trans (hb.mono h.below.size)⟩
theorem RZ.alloc {w0 w : World} {off : Int} {a : Option Addr} {n cap : Nat} {cs : List (Int × Int)} (h : RZ w0 off a n cap cs w) (o : Obj) : RZ w0 off a n cap cs (w.alloc o) := h.step ((Below.refl _ _).alloc (Nat.le_refl _) _)
theorem RZ.drewN {w0 w : World} {off : Int} {a : Option Addr} {n cap : Nat} {cs : List (Int × Int)} (h : RZ w0 off a n cap cs w) (k : Nat) : RZ w0 off a n cap cs (w.drewN k) := h.step (below_drewN (Below.refl _ _) _)
/-- The cells of a change. -/
theorem RZ.cells {w0 w : World} {off : Int} {a : Option Addr} {n cap : Nat} {cs : List (Int × Int)} (h : RZ w0 off a n cap cs w) : n = cs.length ∧ (0 < n → ∃ x : Addr, a = some x) ∧ ∀ x, a = some x → ∀ i (hi : i < cs.length), w.cell? (x.add (i * 2)) = some (.int .i64 cs[i].1) ∧ w.cell? ⟨(x.add (i * 2)).block, (x.add (i * 2)).off + 1, none⟩ = some (.int .i64 cs[i].2) := by
  refine ⟨h.row.1.symm, fun hn => ?_, fun x hx i hi => ?_⟩
  · obtain ⟨x, hx, _⟩ := h.row.2 hn; exact ⟨x, hx⟩
  · obtain ⟨y, hy, _, hc⟩ := h.row.2 (by have := h.row.1; omega)
    rw [hx] at hy
    injection hy with hy
    subst hy
    exact hc i hi

set_option maxRecDepth 100000 in
set_option maxHeartbeats 1000000 in
theorem rvalid_many (off : Int) (a : Option Addr) (n cap : Nat) (hn : 64 < n) (hn' : n ≤ 9223372036854775807) (w : World) :
    Calls Try.prog 30 #[.agg #[.int .i64 off, .slice a n cap]] w fun e w' => e = .returned (.int .i64 3) ∧ Below w.heap.size w w' := by
  go_enter Try.func30, Try.ntmps30
  go_wp2
  go_ret
  exact ⟨rfl, (Below.refl _ _).alloc (Nat.le_refl _) _⟩
set_option maxRecDepth 100000 in
set_option maxHeartbeats 1000000 in
theorem rvalid_off (off : Int) (a : Option Addr) (n cap : Nat) (hn : n ≤ 64) (ho : off < -840 ∨ 840 < off) (w : World) :
    Calls Try.prog 30 #[.agg #[.int .i64 off, .slice a n cap]] w fun e w' => e = .returned (.int .i64 2) ∧ Below w.heap.size w w' := by
  go_enter Try.func30, Try.ntmps30
  go_wp2_with (go_at_call 41; (with_reducible refine (roff_no _ ho _).mono ?_); rintro e w' ⟨rfl, rfl⟩)
  go_ret
  exact ⟨rfl, (Below.refl _ _).alloc (Nat.le_refl _) _⟩
/-- The instant of the change before. -/
def bef (cs : List (Int × Int)) : Nat → Int
  | 0 => -1
  | j + 1 => (cs.getD j (0, 0)).1
set_option maxRecDepth 100000 in
set_option maxHeartbeats 4000000 in
theorem rvalid_in (off : Int) (a : Option Addr) (n cap : Nat) (cs : List (Int × Int)) (hn : n ≤ 64) (o0 : -840 ≤ off) (o1 : off ≤ 840) (w : World) (hr : ChRow w w.heap.size a n cs) :
    Calls Try.prog 30 #[.agg #[.int .i64 off, .slice a n cap]] w fun e w' => e = .returned (.int .i64 (vL (-1) cs)) ∧ Below w.heap.size w w' := by
  have R0 := RZ.new (off := off) (cap := cap) hr
  go_enter Try.func30, Try.ntmps30
  go_wp2_with (go_at_call 41; (with_reducible refine (roff_yes _ o0 o1 _).mono ?_); rintro e w' ⟨rfl, rfl⟩)
  go_loopw [3] (fun iv wr => ∃ k : Nat, k ≤ n ∧ iv = .int .i64 k ∧ Hid (vL (-1) cs = vL (bef cs k) (cs.drop k)) ∧ Hid (RZ w off a n cap cs wr)) (fun iv _ => n - (Go.RowKit.intOf iv).toNat)
  case atStart => exact ⟨0, by omega, rfl, Lib.hid rfl, Lib.hid R0⟩
  case round =>
    obtain ⟨k, hk, rfl, HA, HR⟩ := hrel
    clear R0
    have z1 := HR.out.box.c1
    have zlt := HR.out.box.lt
    by_cases hlt : k < n
    · obtain ⟨hlen, ha, hc⟩ := HR.out.cells
      obtain ⟨x, rfl⟩ := ha (by omega)
      have hk' : k < cs.length := by omega
      obtain ⟨c0, c1⟩ := hc x rfl k hk'
      have HP : Hid (∀ j, j + 1 = k → wr.cell? (x.add (j * 2)) = some (.int .i64 (bef cs k))) := Lib.hid fun j hj => by
        have hj' : j < cs.length := by omega
        have := (hc x rfl j hj').1
        subst hj
        simpa [bef, List.getD, hj'] using this
      have S := Lib.hid (List.drop_eq_getElem_cons hk')
      have B1 : Hid (bef cs (k + 1) = cs[k].1) := Lib.hid (by simp [bef, List.getD, hk'])
      generalize cs[k] = c at *
      clear hc ha hlen
      have R1 := Lib.hid (HR.out.alloc (.cells #[.int .i64 c.1, .int .i64 c.2] 27))
      by_cases hA : c.1 < 0 ∨ 120968639 < c.1
      · go_wp2_with (go_at_call 38; (with_reducible refine (rins_no _ hA _).mono ?_); rintro e w' ⟨rfl, rfl⟩)
        go_ret
        refine ⟨retI ?_, R1.out.below⟩
        rw [HA.out, S.out]; unfold vL; rw [if_pos (by omega)]
      · have a0 : 0 ≤ c.1 := by omega
        have a1 : c.1 ≤ 120968639 := by omega
        by_cases hO : c.2 < -840 ∨ 840 < c.2
        · go_wp2_with (first | (go_at_call 38; (with_reducible refine (rins_yes _ a0 a1 _).mono ?_); rintro e w' ⟨rfl, rfl⟩) | (go_at_call 41; (with_reducible refine (roff_no _ hO _).mono ?_); rintro e w' ⟨rfl, rfl⟩))
          go_ret
          refine ⟨retI ?_, R1.out.below⟩
          rw [HA.out, S.out]; unfold vL; rw [if_pos (by omega)]
        · have p0 : -840 ≤ c.2 := by omega
          have p1 : c.2 ≤ 840 := by omega
          rcases hd : k with _ | j
          · subst hd
            have ex : x.add (0 * 2) = x := by simp [Addr.add]
            rw [ex] at c0 c1
            clear ex
            go_wp2_with (first | (go_at_call 38; (with_reducible refine (rins_yes _ a0 a1 _).mono ?_); rintro e w' ⟨rfl, rfl⟩) | (go_at_call 41; (with_reducible refine (roff_yes _ p0 p1 _).mono ?_); rintro e w' ⟨rfl, rfl⟩))
            go_quiet (fail)
            go_wp2_with fail
            go_roundw
            case rel => exact ⟨0 + 1, by omega, by go_num, Lib.hid (by rw [HA.out, S.out, B1.out]; conv => lhs; unfold vL; rw [if_neg (by omega), if_neg (by show ¬ c.1 ≤ -1; omega)]), Lib.hid (R1.out.drewN _)⟩
            case measure => simp [Go.RowKit.intOf]; omega
          · subst hd
            have cp := HP.out j rfl
            have hw : wr.heap.size < (wr.alloc (.cells #[.int .i64 c.1, .int .i64 c.2] 27)).heap.size := by simp
            have cp2 : (wr.alloc (.cells #[.int .i64 c.1, .int .i64 c.2] 27)).cell? (x.add (j * 2)) = some (.int .i64 (bef cs (j + 1))) := ((Below.refl _ _).alloc (Nat.le_refl _) _ : Below wr.heap.size wr _).cell (World.block_lt_of_cell? wr _ cp) |>.trans cp
            have g1 : IntKind.i64.wrap ((j : Int) + 1 - 1) = (j : Int) := by rw [show (j : Int) + 1 - 1 = j by omega]; exact IntWalk.i64_in _ (by omega)
            have g2 : (0 : Int) ≤ (j : Int) := by omega
            have g3 : ((j : Int)).toNat = j := by omega
            have g4 : (j : Int) < (n : Int) := by omega
            have g5 : (0 : Int) < (j : Int) + 1 := by omega
            obtain ⟨z, hz⟩ : ∃ z, bef cs (j + 1) = z := ⟨_, rfl⟩
            rw [hz] at cp2
            have HZ := Lib.hid hz
            clear cp hz HP
            by_cases hle : c.1 ≤ z
            · have hd : decide (c.1 ≤ z) = true := by simp [hle]
              go_wp2_with (first | (go_at_call 38; (with_reducible refine (rins_yes _ a0 a1 _).mono ?_); rintro e w' ⟨rfl, rfl⟩) | (go_at_call 41; (with_reducible refine (roff_yes _ p0 p1 _).mono ?_); rintro e w' ⟨rfl, rfl⟩))
              go_quiet (fail)
              clear g1 g2 g3 g4 g5
              go_wp2_with fail
              go_ret
              refine ⟨retI ?_, (R1.out.drewN _).below⟩
              rw [HA.out, S.out, HZ.out]; unfold vL; rw [if_neg (by omega), if_pos hle]
            · have hd : decide (c.1 ≤ z) = false := by simp; omega
              go_wp2_with (first | (go_at_call 38; (with_reducible refine (rins_yes _ a0 a1 _).mono ?_); rintro e w' ⟨rfl, rfl⟩) | (go_at_call 41; (with_reducible refine (roff_yes _ p0 p1 _).mono ?_); rintro e w' ⟨rfl, rfl⟩))
              go_quiet (fail)
              clear g1 g2 g3 g4 g5
              go_wp2_with fail
              go_roundw
              case rel => exact ⟨j + 1 + 1, by omega, by go_num, Lib.hid (by rw [HA.out, S.out, HZ.out, B1.out]; conv => lhs; unfold vL; rw [if_neg (by omega), if_neg (by omega)]), Lib.hid (R1.out.drewN _)⟩
              case measure => simp [Go.RowKit.intOf]; omega
    · go_wp2
      go_ret
      refine ⟨retI ?_, HR.out.below⟩
      rw [HA.out, List.drop_eq_nil_of_le (by have := HR.out.row.1; omega)]; rfl
theorem rvalid_any (off : Int) (a : Option Addr) (n cap : Nat) (cs : List (Int × Int)) (hn : n ≤ 9223372036854775807) (w : World) (hr : ChRow w w.heap.size a n cs) :
    Calls Try.prog 30 #[.agg #[.int .i64 off, .slice a n cap]] w fun e w' => e = .returned (.int .i64 (vE off cs)) ∧ Below w.heap.size w w' := by
  have hl := hr.1
  unfold vE
  by_cases h : 64 < n
  · rw [if_pos (by omega)]; exact rvalid_many off a n cap h hn w
  · rw [if_neg (by omega)]
    by_cases ho : off < -840 ∨ 840 < off
    · rw [if_pos ho]; exact rvalid_off off a n cap (by omega) ho w
    · rw [if_neg ho]; exact rvalid_in off a n cap cs (by omega) (by omega) (by omega) w hr
end Go.Proofs.Ytbbfkpkibakieaa
