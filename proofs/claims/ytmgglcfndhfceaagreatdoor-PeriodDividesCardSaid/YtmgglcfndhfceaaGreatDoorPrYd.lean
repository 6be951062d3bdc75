/-
  Layer 5 (period): contracts of divides and weight. Conditions: the cuts and the holidays lie in memory; the days are in range; the table of month lengths reads as the program's text lays it.
-/
import Derived.Test.YtmgglcfndhfceaaGreatDoorPrYc
import Derived.Test.YtmgglcfndhfceaaGreatDoorPrYw
import Derived.Test.YtmgglcfndhfceaaGreatDoorPrCp
namespace Go.Proofs.YtmgglcfndhfceaaGreatDoor.Per
open Go Go.RowKit Go.Lib Go.Proofs.YtmgglcfndhfceaaGreatDoor Go.Proofs.YtmgglcfndhfceaaGreatDoor.Cal

/-- The cuts lie in memory, below block B. -/
def CutRow (w : World) (B : Nat) (a : Option Addr) (n : Nat) (g : Nat → Int) : Prop := 0 < n → ∃ x : Addr, a = some x ∧ x.block < B ∧ ∀ i, i < n → w.cell? (x.add i) = some (.int .i64 (g i))
theorem CutRow.below {w w' : World} {B : Nat} {a : Option Addr} {n : Nat} {g : Nat → Int} (h : CutRow w B a n g) (hb : Below B w w') : CutRow w' B a n g := fun hn => by
  obtain ⟨x, ha, hx, hc⟩ := h hn
  exact ⟨x, ha, hx, fun i hi => (hb.cell (by rw [addB]; exact hx)).trans (hc i hi)⟩
theorem CutRow.more {w : World} {B B' : Nat} {a : Option Addr} {n : Nat} {g : Nat → Int} (h : CutRow w B a n g) (hB : B ≤ B') : CutRow w B' a n g := fun hn => by
  obtain ⟨x, ha, hx, hc⟩ := h hn
  exact ⟨x, ha, by omega, hc⟩
theorem bnd_part {g : Nat → Int} {F T : Int} {n : Nat} (hF : F ≤ T) : ∀ k : Nat, k ≤ n → (∀ i, i < k → bnd g F T n i < g i ∧ g i ≤ T) → F ≤ bnd g F T n k ∧ bnd g F T n k ≤ T
  | 0, _, _ => by rw [bnd_0]; omega
  | k + 1, hk, h => by
    have a := bnd_part hF k (by omega) fun i hi => h i (by omega)
    have b := h k (by omega)
    rw [bnd_cut _ _ _ _ _ (by omega)]; omega

set_option maxRecDepth 100000 in
set_option maxHeartbeats 2000000 in
theorem pdiv_any (a : Option Addr) (n cap b : Nat) (g : Nat → Int) (F T : Int) (B : Bool) (hn : n ≤ 9223372036854775806) (hF0 : 0 ≤ F) (hF : F ≤ T) (hT : T ≤ 84005) (hb : b ≤ n) (ho : ∀ i, i < b → bnd g F T n i < g i ∧ g i ≤ T) (hB : (B = true ∧ b = n) ∨ (B = false ∧ b < n ∧ (g b ≤ bnd g F T n b ∨ T < g b))) (w : World) (hr : CutRow w w.heap.size a n g) :
    Calls Tryz.prog 37 #[.slice a n cap, .agg #[.int .i64 F, .int .i64 T]] w (RetV (.bool B) w) := by
  have HO := Lib.hid ho
  have HB := Lib.hid hB
  have HBB := Lib.hid hb
  have hr1 := hr.below ((Below.refl _ _).alloc (Nat.le_refl _) (.cells #[.int .i64 F, .int .i64 T] 34))
  have R0 := Box2.new w 34 F T
  have z0 := R0.c0
  have z1 := R0.c1
  clear ho hB hb hr R0
  go_enter Tryz.func37, Tryz.ntmps37
  go_wp2
  go_loop [5, 12] (fun f z => ∃ k : Nat, k ≤ n ∧ k ≤ b ∧ z = .int .i64 k ∧ f = .int .i64 (bnd g F T n k)) (fun _ z => n - (intOf z).toNat)
  case atStart => exact ⟨0, by omega, by omega, rfl, by rw [bnd_0]⟩
  case round =>
    obtain ⟨k, hk, hkb, rfl, rfl⟩ := hrel
    obtain ⟨p0, p1⟩ := bnd_part hF k hk fun i hi => HO.out i (by omega)
    by_cases hlt : k < n
    · obtain ⟨x, rfl, hx, hc⟩ := hr1 (by omega)
      have c := hc k hlt
      have E := Lib.hid (bnd_cut g F T n k hlt)
      clear hc hr1
      by_cases hkk : k < b
      · obtain ⟨o0, o1⟩ := HO.out k hkk
        generalize bnd g F T n k = q at *
        generalize g k = v at *
        go_wp2_with (go_at_call 36; (with_reducible refine (pwithin_yes _ _ _ (by omega) (by omega) _).mono ?_); rintro e w' ⟨rfl, rfl⟩)
        go_round
        case rel => exact ⟨k + 1, by omega, by omega, by go_num, by rw [E.out]⟩
        case measure => simp [intOf]; omega
      · obtain rfl : b = k := by omega
        rcases HB.out with ⟨_, h2⟩ | ⟨rfl, h2, h3⟩
        · omega
        · generalize bnd g F T n b = q at *
          generalize g b = v at *
          have h4 : v < q + 1 ∨ T < v := by omega
          go_wp2_with (go_at_call 36; (with_reducible refine (pwithin_no _ _ _ h4 _).mono ?_); rintro e w' ⟨rfl, rfl⟩)
          go_ret
          exact ⟨rfl, (Below.refl _ _).alloc (Nat.le_refl _) _⟩
    · rcases HB.out with ⟨rfl, h2⟩ | ⟨rfl, h2, h3⟩
      · go_wp2
        go_ret
        exact ⟨rfl, (Below.refl _ _).alloc (Nat.le_refl _) _⟩
      · omega

/-! weight -/
set_option maxHeartbeats 1000000 in
theorem pw_0 (Z : List Int) (a b F T : Int) (ha : Option Addr) (hn hcap : Nat) (a0 : 0 ≤ a) (ab : a ≤ b) (b1 : b ≤ 84005) (w : World) :
    Calls Tryz.prog 39 #[.int .i64 a, .int .i64 b, .agg #[.int .i64 F, .int .i64 T], .int .i64 0, .slice ha hn hcap] w (RetI (sumD (dw 0 Z) a (b - a + 1).toNat) w) := by
  have E := Lib.hid (show sumD (dw 0 Z) a (b - a + 1).toNat = b - a + 1 by rw [sumD_0]; omega)
  go_enter Tryz.func39, Tryz.ntmps39
  go_wp2
  go_ret
  exact RetI.of rfl E.out ((Below.refl _ _).alloc (Nat.le_refl _) _)
set_option maxRecDepth 100000 in
set_option maxHeartbeats 1000000 in
theorem pw_1 (a b F T : Int) (ha : Option Addr) (hn hcap : Nat) (hs : List Cal.Hol) (hn1 : hn ≤ 1024) (hv : hs.all Cal.Hol.ok = true) (a0 : 0 ≤ a) (ab : a ≤ b) (b1 : b ≤ 84005) (w : World) (hr : HolRow w w.heap.size ha hn hs) (hl : LgIs w) :
    Calls Tryz.prog 39 #[.int .i64 a, .int .i64 b, .agg #[.int .i64 F, .int .i64 T], .int .i64 1, .slice ha hn hcap] w (RetI (sumD (dw 1 (Cal.nmAll hs)) a (b - a + 1).toNat) w) := by
  have E := Lib.hid (sumD_1 (Cal.nmAll hs) a (b - a + 1).toNat)
  have C := Lib.hid (fun w hr hl => work_ok ha hn hcap hs hn1 a b a0 (by omega) (by omega) b1 hv w hr hl)
  generalize Cal.cnt (Cal.nmAll hs) a (b - a + 1).toNat = N at *
  have hB := (Below.refl w.heap.size w).alloc (Nat.le_refl _) (.cells #[.int .i64 F, .int .i64 T] 34)
  have hr1 := (hr.below hB).more (B' := (w.alloc (.cells #[.int .i64 F, .int .i64 T] 34)).heap.size) hB.size
  have hl1 := hl.below hB
  clear hr hl
  go_enter Tryz.func39, Tryz.ntmps39
  go_wp2_with fail
  refine (C.out _ hr1 hl1).mono ?_
  rintro e w1 ⟨rfl, hw1⟩
  go_wp2_with fail
  go_ret
  exact RetI.of rfl E.out (hB.trans (hw1.mono hB.size))
set_option maxHeartbeats 1000000 in
theorem pw_2 (Z : List Int) (m a b : Int) (ha : Option Addr) (hn hcap : Nat) (m0 : 0 ≤ m) (m1 : m ≤ 2759) (a0 : fst m ≤ a) (ab : a ≤ b) (b1 : b ≤ fst m + len m - 1) (w : World) :
    Calls Tryz.prog 39 #[.int .i64 a, .int .i64 b, .agg #[.int .i64 (fst m), .int .i64 (fst m + len m - 1)], .int .i64 2, .slice ha hn hcap] w (RetI (sumD (dw 2 Z) a (b - a + 1).toNat) w) := by
  have E := part_2 Z m a b m0 m1 a0 ab b1
  have F := fst_le m m0 m1
  generalize sumD (dw 2 Z) a (b - a + 1).toNat = N at *
  generalize fst m = f at *
  generalize len m = l at *
  obtain ⟨f0, f1, f2, f3⟩ := F
  rcases hb : (b == f + l - 1) with _ | _
  · have hb' : ¬ b = f + l - 1 := by simpa using hb
    rw [if_neg hb'] at E
    have EE := Lib.hid E
    clear E hb'
    go_enter Tryz.func39, Tryz.ntmps39
    go_wp2
    go_ret
    exact RetI.of rfl EE.out ((Below.refl _ _).alloc (Nat.le_refl _) _)
  · have hb' : b = f + l - 1 := by simpa using hb
    rw [if_pos hb'] at E
    have EE := Lib.hid E
    have HB := Lib.hid hb'
    clear E hb'
    go_enter Tryz.func39, Tryz.ntmps39
    go_wp2
    go_ret
    exact RetI.of rfl (by rw [EE.out]; omega) ((Below.refl _ _).alloc (Nat.le_refl _) _)
/-- What weight is called at: a part of the days from F to T. -/
structure PartOk (mt : Int) (hs : List Cal.Hol) (F T : Int) : Prop where
  mt3 : mt = 0 ∨ (mt = 1 ∧ hs.all Cal.Hol.ok = true) ∨ (mt = 2 ∧ ∃ m, 0 ≤ m ∧ m ≤ 2759 ∧ F = fst m ∧ T = fst m + len m - 1)
  lo : 0 ≤ F
  le : F ≤ T
  hi : T ≤ 84005
theorem pw_any (mt : Int) (hs : List Cal.Hol) (a b F T : Int) (ha : Option Addr) (hn hcap : Nat) (hn1 : hn ≤ 1024) (hp : PartOk mt hs F T) (a0 : F ≤ a) (ab : a ≤ b) (b1 : b ≤ T) (w : World) (hr : HolRow w w.heap.size ha hn hs) (hl : LgIs w) :
    Calls Tryz.prog 39 #[.int .i64 a, .int .i64 b, .agg #[.int .i64 F, .int .i64 T], .int .i64 mt, .slice ha hn hcap] w (RetI (sumD (dw mt (Cal.nmAll hs)) a (b - a + 1).toNat) w) := by
  obtain ⟨h, h0, h1, h2⟩ := hp
  rcases h with rfl | ⟨rfl, hv⟩ | ⟨rfl, m, m0, m1, rfl, rfl⟩
  · exact pw_0 _ a b F T ha hn hcap (by omega) ab (by omega) w
  · exact pw_1 a b F T ha hn hcap hs hn1 hv (by omega) ab (by omega) w hr hl
  · exact pw_2 _ m a b ha hn hcap m0 m1 a0 ab b1 w
end Go.Proofs.YtmgglcfndhfceaaGreatDoor.Per
