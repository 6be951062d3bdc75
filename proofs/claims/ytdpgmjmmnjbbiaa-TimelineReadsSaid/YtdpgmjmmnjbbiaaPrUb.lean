/-
  Layer 6 (timeline): rows of changes, as memory holds them; contracts of within, Valid and check, of the program and of the reference. Conditions: the list reads as changes.
-/
import Derived.Test.YtdpgmjmmnjbbiaaPrUa
import Derived.Shelf.SlicesQ.Reverse
namespace Go.Proofs.Ytdpgmjmmnjbbiaa.Tl
open Go Go.RowKit Go.Lib Go.Sort Go.Shelf Go.Proofs Go.Proofs.Ytdpgmjmmnjbbiaa Go.Proofs.Ytdpgmjmmnjbbiaa.Tp
set_option linter.unusedVariables false

/-- A change's four cells. -/
def encC (c : Chg) : List Value := [.int .i64 c.fr, .int .i64 c.kn, .int .i64 c.va, .bool c.de]
theorem encC_one (c : Chg) : ∀ v ∈ encC c, v.oneCell' = true := by
  intro v hv
  simp [encC] at hv
  rcases hv with rfl | rfl | rfl | rfl <;> rfl
/-- The four cells from address p on hold a change. -/
def At4 (w : World) (p : Addr) (c : Chg) : Prop :=
  w.cell? p = some (.int .i64 c.fr) ∧ w.cell? ⟨p.block, p.off + 1, none⟩ = some (.int .i64 c.kn) ∧ w.cell? ⟨p.block, p.off + 2, none⟩ = some (.int .i64 c.va) ∧ w.cell? ⟨p.block, p.off + 3, none⟩ = some (.bool c.de)
theorem At4.lt {w : World} {p : Addr} {c : Chg} (h : At4 w p c) : p.block < w.heap.size := World.block_lt_of_cell? w _ h.1
theorem At4.block {w w' : World} {p : Addr} {c : Chg} (h : At4 w p c) (hb : w'.heap[p.block]? = w.heap[p.block]?) : At4 w' p c :=
  ⟨(World.cell?_of_block hb).trans h.1, (World.cell?_of_block (a := ⟨p.block, p.off + 1, none⟩) hb).trans h.2.1, (World.cell?_of_block (a := ⟨p.block, p.off + 2, none⟩) hb).trans h.2.2.1, (World.cell?_of_block (a := ⟨p.block, p.off + 3, none⟩) hb).trans h.2.2.2⟩

/-- The slice's cells hold these changes; it lies below block B. -/
def ChgRow (w : World) (B : Nat) (a : Option Addr) (n : Nat) (cs : List Chg) : Prop :=
  cs.length = n ∧ (0 < n → ∃ x : Addr, a = some x ∧ x.block < B ∧ ∀ i, i < n → At4 w (x.add (i * 4)) cs[i]!)
theorem addB4 (x : Addr) (i : Nat) : (x.add i).block = x.block := by unfold Addr.add; split <;> rfl
theorem ChgRow.keep {w w' : World} {B : Nat} {a : Option Addr} {n : Nat} {cs : List Chg} (h : ChgRow w B a n cs) (hb : ∀ k, k < B → k < w.heap.size → (∃ x : Addr, a = some x ∧ x.block = k) → w'.heap[k]? = w.heap[k]?) : ChgRow w' B a n cs := by
  refine ⟨h.1, fun hn => ?_⟩
  obtain ⟨x, ha, hx, hc⟩ := h.2 hn
  exact ⟨x, ha, hx, fun i hi => (hc i hi).block (hb _ (by rw [addB4]; exact hx) (hc i hi).lt ⟨x, ha, (addB4 x _).symm⟩)⟩
theorem ChgRow.below {w w' : World} {B : Nat} {a : Option Addr} {n : Nat} {cs : List Chg} (h : ChgRow w B a n cs) (hb : Below B w w') : ChgRow w' B a n cs := h.keep fun k hk _ _ => hb.block k hk
theorem ChgRow.only {w w' : World} {B b : Nat} {a : Option Addr} {n : Nat} {cs : List Chg} (h : ChgRow w B a n cs) (ho : Only b w w') (hb : B ≤ b) : ChgRow w' B a n cs := h.keep fun k hk hs _ => ho.block k hs (by omega)
theorem ChgRow.only' {w w' : World} {B b : Nat} {a : Option Addr} {n : Nat} {cs : List Chg} (h : ChgRow w B a n cs) (ho : Only b w w') (hb : ∀ x, a = some x → x.block ≠ b) : ChgRow w' B a n cs :=
  h.keep fun k hk hs ⟨x, ha, hx⟩ => ho.block k hs (fun e => hb x ha (hx.trans e))
theorem ChgRow.mono {w : World} {B B' : Nat} {a : Option Addr} {n : Nat} {cs : List Chg} (h : ChgRow w B a n cs) (hB : B ≤ B') : ChgRow w B' a n cs := by
  refine ⟨h.1, fun hn => ?_⟩
  obtain ⟨x, ha, hx, hc⟩ := h.2 hn
  exact ⟨x, ha, Nat.lt_of_lt_of_le hx hB, hc⟩

/-- A row of changes in a block of the call's own, from its beginning on. -/
structure RowC (w : World) (g : Nat) (d : Array Chg) : Prop where
  cell : ∀ i, i < d.size → At4 w ⟨g, i * 4, none⟩ d[i]!
  free : ∀ j, j < d.size * 4 → w.frozen? ⟨g, j, none⟩ = false
theorem RowC.keep {w w' : World} {g : Nat} {d : Array Chg} (h : RowC w g d) (hb : w'.heap[g]? = w.heap[g]?) : RowC w' g d :=
  ⟨fun i hi => (h.cell i hi).block hb, fun j hj => (World.frozen?_of_block (a := ⟨g, j, none⟩) hb).trans (h.free j hj)⟩
theorem RowC.below {w w' : World} {g B : Nat} {d : Array Chg} (h : RowC w g d) (hb : Below B w w') (hB : g < B) : RowC w' g d := h.keep (hb.block g hB)
theorem RowC.only {w w' : World} {g b : Nat} {d : Array Chg} (h : RowC w g d) (ho : Only b w w') (hg : g < w.heap.size) (hb : g ≠ b) : RowC w' g d := h.keep (ho.block g hg hb)
theorem RowC.row {w : World} {g B : Nat} {d : Array Chg} (h : RowC w g d) (hB : g < B) : ChgRow w B (some ⟨g, 0, none⟩) d.size d.toList := by
  refine ⟨by simp, fun hn => ⟨_, rfl, hB, fun i hi => ?_⟩⟩
  have e : (⟨g, 0, none⟩ : Addr).add (i * 4) = ⟨g, i * 4, none⟩ := by rw [Addr.add_lit, Nat.zero_add]
  rw [e, show d.toList[i]! = d[i]! by rw [getElem!_pos d.toList i (by simpa using hi), getElem!_pos d i hi]; simp]
  exact h.cell i hi
theorem RowC.take {w : World} {g : Nat} {d e : Array Chg} (h : RowC w g d) (he : e.size ≤ d.size) (hd : ∀ i, i < e.size → d[i]! = e[i]!) : RowC w g e :=
  ⟨fun i hi => by rw [← hd i hi]; exact h.cell i (by omega), fun j hj => h.free j (by omega)⟩
theorem RowC.holds {w : World} {g : Nat} {d : Array Chg} (h : RowC w g d) : HoldsK encC 4 w g 0 d := by
  intro t ht
  rw [size_flatK] at ht
  rw [get_flatK _ _ _ _ ht, Nat.zero_add]
  have hq : t / 4 < d.size := by omega
  obtain ⟨c0, c1, c2, c3⟩ := h.cell _ hq
  refine ⟨?_, h.free t ht⟩
  have e : t = t / 4 * 4 + t % 4 := by omega
  have hm : t % 4 < 4 := by omega
  generalize t % 4 = r at *
  generalize t / 4 = q at *
  subst e
  show w.cell? _ = some (encC d[q]!)[r]!
  rcases r with _ | _ | _ | _ | r
  · exact c0
  · exact c1
  · exact c2
  · exact c3
  · omega
theorem RowC.of_holds {w : World} {g : Nat} {d : Array Chg} (h : HoldsK encC 4 w g 0 d) : RowC w g d := by
  refine ⟨fun i hi => ?_, fun j hj => ?_⟩
  · have k0 := (HoldsK.cell h (i := i) (c := 0) hi (by omega)).1
    have k1 := (HoldsK.cell h (i := i) (c := 1) hi (by omega)).1
    have k2 := (HoldsK.cell h (i := i) (c := 2) hi (by omega)).1
    have k3 := (HoldsK.cell h (i := i) (c := 3) hi (by omega)).1
    simp only [Nat.zero_add, Nat.add_zero] at k0 k1 k2 k3
    exact ⟨k0, k1, k2, k3⟩
  · have := (h j (by rw [size_flatK]; exact hj)).2
    rwa [Nat.zero_add] at this
/-- Four stores: an element of the row. -/
theorem RowC.set {w : World} {g k : Nat} {d : Array Chg} (h : RowC w g d) (hk : k < d.size) (c : Chg) :
    RowC ((((w.setCell ⟨g, k * 4, none⟩ (.int .i64 c.fr)).setCell ⟨g, k * 4 + 1, none⟩ (.int .i64 c.kn)).setCell ⟨g, k * 4 + 2, none⟩ (.int .i64 c.va)).setCell ⟨g, k * 4 + 3, none⟩ (.bool c.de)) g (d.setIfInBounds k c) := by
  obtain ⟨a0, a1, a2, a3⟩ := h.cell k hk
  have o : ∀ (W : World) (i j : Nat) (v : Value), i ≠ j → (W.setCell ⟨g, i, none⟩ v).cell? ⟨g, j, none⟩ = W.cell? ⟨g, j, none⟩ := fun W i j v hij => World.cell?_setCell_other _ _ _ _ (fun e => hij (by injection e))
  refine ⟨fun i hi => ?_, fun j hj => ?_⟩
  · have hi' : i < d.size := by simpa using hi
    by_cases e : i = k
    · subst e
      rw [show (d.setIfInBounds i c)[i]! = c by simp [hi']]
      refine ⟨?_, ?_, ?_, ?_⟩
      · rw [o _ _ _ _ (by omega), o _ _ _ _ (by omega), o _ _ _ _ (by omega)]
        exact World.cell?_setCell_same _ _ _ a0
      · show World.cell? _ ⟨g, i * 4 + 1, none⟩ = _
        rw [o _ _ _ _ (by omega), o _ _ _ _ (by omega)]
        exact World.cell?_setCell_same _ _ _ (by rw [o _ _ _ _ (by omega)]; exact a1)
      · show World.cell? _ ⟨g, i * 4 + 2, none⟩ = _
        rw [o _ _ _ _ (by omega)]
        exact World.cell?_setCell_same _ _ _ (by rw [o _ _ _ _ (by omega), o _ _ _ _ (by omega)]; exact a2)
      · show World.cell? _ ⟨g, i * 4 + 3, none⟩ = _
        exact World.cell?_setCell_same _ _ _ (by rw [o _ _ _ _ (by omega), o _ _ _ _ (by omega), o _ _ _ _ (by omega)]; exact a3)
    · have hx : (d.setIfInBounds k c)[i]! = d[i]! := by
        rw [getElem!_pos (d.setIfInBounds k c) i hi, getElem!_pos d i hi', Array.getElem_setIfInBounds_ne (h := fun h => e h.symm)]
      rw [hx]
      obtain ⟨b0, b1, b2, b3⟩ := h.cell i hi'
      refine ⟨?_, ?_, ?_, ?_⟩
      · rw [o _ _ _ _ (by omega), o _ _ _ _ (by omega), o _ _ _ _ (by omega), o _ _ _ _ (by omega)]; exact b0
      · show World.cell? _ ⟨g, i * 4 + 1, none⟩ = _
        rw [o _ _ _ _ (by omega), o _ _ _ _ (by omega), o _ _ _ _ (by omega), o _ _ _ _ (by omega)]; exact b1
      · show World.cell? _ ⟨g, i * 4 + 2, none⟩ = _
        rw [o _ _ _ _ (by omega), o _ _ _ _ (by omega), o _ _ _ _ (by omega), o _ _ _ _ (by omega)]; exact b2
      · show World.cell? _ ⟨g, i * 4 + 3, none⟩ = _
        rw [o _ _ _ _ (by omega), o _ _ _ _ (by omega), o _ _ _ _ (by omega), o _ _ _ _ (by omega)]; exact b3
  · rw [World.frozen?_setCell, World.frozen?_setCell, World.frozen?_setCell, World.frozen?_setCell]
    exact h.free j (by simpa using hj)

/-! ## Errors -/
theorem wit_yes (n lo hi : Int) (h : lo ≤ n ∧ n ≤ hi) (w : World) : Calls Try.prog 31 #[.int .i64 n, .int .i64 lo, .int .i64 hi] w fun e w' => e = .returned (.bool true) ∧ w' = w := by
  have a : decide (lo ≤ n) = true := decide_eq_true h.1
  have b : decide (n ≤ hi) = true := decide_eq_true h.2
  clear h
  go_enter Try.func31, Try.ntmps31
  go_wp2
  go_ret
  exact ⟨rfl, rfl⟩
theorem wit_no (n lo hi : Int) (h : ¬ (lo ≤ n ∧ n ≤ hi)) (w : World) : Calls Try.prog 31 #[.int .i64 n, .int .i64 lo, .int .i64 hi] w fun e w' => e = .returned (.bool false) ∧ w' = w := by
  by_cases a : lo ≤ n
  · have b : decide (n ≤ hi) = false := decide_eq_false fun b => h ⟨a, b⟩
    have a := decide_eq_true a
    clear h
    go_enter Try.func31, Try.ntmps31
    go_wp2
    go_ret
    exact ⟨rfl, rfl⟩
  · have a := decide_eq_false a
    clear h
    go_enter Try.func31, Try.ntmps31
    go_wp2
    go_ret
    exact ⟨rfl, rfl⟩
theorem retI {a b : Int} (h : a = b) : Ending.returned (.int .i64 a) = .returned (.int .i64 b) := by rw [h]

set_option maxRecDepth 100000 in
set_option maxHeartbeats 4000000 in
theorem valid_few (a : Option Addr) (n cap : Nat) (cs : List Chg) (hn : n ≤ 1024) (w : World) (hr : ChgRow w w.heap.size a n cs) :
    Calls Try.prog 23 #[.slice a n cap] w fun e w' => e = .returned (.int .i64 (errL cs)) ∧ Below w.heap.size w w' := by
  have HR := Lib.hid hr
  clear hr
  go_enter Try.func23, Try.ntmps23
  go_wp2
  go_loopw [10] (fun x wr => ∃ k : Nat, k ≤ n ∧ x = .int .i64 k ∧ Hid (errL (cs.take k) = 0) ∧ Below w.heap.size w wr) (fun x _ => n - (intOf x).toNat)
  case atStart => exact ⟨0, by omega, rfl, Lib.hid rfl, Below.refl _ _⟩
  case round =>
    obtain ⟨k, hk, rfl, HA, hB⟩ := hrel
    by_cases hlt : k < n
    · have hlen := HR.out.1
      obtain ⟨x, rfl, hx, hc⟩ := (HR.out.below hB).2 (by omega)
      have hk' : k < cs.length := by omega
      obtain ⟨c0, c1, c2, c3⟩ := hc k hlt
      have S := Lib.hid (errL_take cs k HA.out hk')
      have STOP := Lib.hid (errL_stop cs k HA.out hk')
      rw [show cs[k] = cs[k]! by rw [getElem!_pos cs k hk']] at S STOP
      generalize cs[k]! = h at *
      obtain ⟨f, kn, v, d⟩ := h
      simp only at c0 c1 c2 c3
      have hB1 : Below w.heap.size w (wr.alloc (.cells #[.int .i64 f, .int .i64 kn, .int .i64 v, .bool d] 42)) := hB.alloc hB.size _
      clear hc hx hlen hk' HA
      by_cases h1 : 0 ≤ f ∧ f ≤ 84005
      · by_cases h2 : 0 ≤ kn ∧ kn ≤ 2147483647
        · by_cases h3 : -1000000000000 ≤ v ∧ v ≤ 1000000000000
          · have OK : okC ⟨f, kn, v, d⟩ := ⟨h1.1, h1.2, h2.1, h2.2, h3.1, h3.2⟩
            have E0 := Lib.hid (show errC ⟨f, kn, v, d⟩ = if d = true ∧ v ≠ 0 then 1 else 0 from if_pos OK)
            clear OK
            cases d
            · have E1 := Lib.hid (show errC ⟨f, kn, v, false⟩ = 0 by rw [E0.out]; simp)
              go_wp2_with (first | (go_at_call 31; (with_reducible refine (wit_yes _ _ _ (by omega) _).mono ?_); rintro e w' ⟨rfl, rfl⟩) | (go_at_call 31; (with_reducible refine (wit_no _ _ _ (by omega) _).mono ?_); rintro e w' ⟨rfl, rfl⟩))
              go_roundw
              case rel => exact ⟨k + 1, by omega, by go_num, Lib.hid (S.out.trans E1.out), hB1⟩
              case measure => simp [intOf]; omega
            · by_cases h4 : v = 0
              · subst h4
                have E1 := Lib.hid (show errC ⟨f, kn, 0, true⟩ = 0 by rw [E0.out]; simp)
                go_wp2_with (first | (go_at_call 31; (with_reducible refine (wit_yes _ _ _ (by omega) _).mono ?_); rintro e w' ⟨rfl, rfl⟩) | (go_at_call 31; (with_reducible refine (wit_no _ _ _ (by omega) _).mono ?_); rintro e w' ⟨rfl, rfl⟩))
                go_roundw
                case rel => exact ⟨k + 1, by omega, by go_num, Lib.hid (S.out.trans E1.out), hB1⟩
                case measure => simp [intOf]; omega
              · have E1 := Lib.hid (show errC ⟨f, kn, v, true⟩ = 1 by rw [E0.out]; simp [h4])
                have hv : (v != 0) = true := by simpa using h4
                go_wp2_with (first | (go_at_call 31; (with_reducible refine (wit_yes _ _ _ (by omega) _).mono ?_); rintro e w' ⟨rfl, rfl⟩) | (go_at_call 31; (with_reducible refine (wit_no _ _ _ (by omega) _).mono ?_); rintro e w' ⟨rfl, rfl⟩))
                go_ret
                exact ⟨retI (by rw [STOP.out (by rw [E1.out]; decide), E1.out]), hB1⟩
          · have E1 := Lib.hid (show errC ⟨f, kn, v, d⟩ = 2 from if_neg fun o => h3 ⟨o.2.2.2.2.1, o.2.2.2.2.2⟩)
            go_wp2_with (first | (go_at_call 31; (with_reducible refine (wit_yes _ _ _ (by omega) _).mono ?_); rintro e w' ⟨rfl, rfl⟩) | (go_at_call 31; (with_reducible refine (wit_no _ _ _ (by omega) _).mono ?_); rintro e w' ⟨rfl, rfl⟩))
            go_ret
            exact ⟨retI (by rw [STOP.out (by rw [E1.out]; decide), E1.out]), hB1⟩
        · have E1 := Lib.hid (show errC ⟨f, kn, v, d⟩ = 2 from if_neg fun o => h2 ⟨o.2.2.1, o.2.2.2.1⟩)
          go_wp2_with (first | (go_at_call 31; (with_reducible refine (wit_yes _ _ _ (by omega) _).mono ?_); rintro e w' ⟨rfl, rfl⟩) | (go_at_call 31; (with_reducible refine (wit_no _ _ _ (by omega) _).mono ?_); rintro e w' ⟨rfl, rfl⟩))
          go_ret
          exact ⟨retI (by rw [STOP.out (by rw [E1.out]; decide), E1.out]), hB1⟩
      · have E1 := Lib.hid (show errC ⟨f, kn, v, d⟩ = 2 from if_neg fun o => h1 ⟨o.1, o.2.1⟩)
        go_wp2_with (first | (go_at_call 31; (with_reducible refine (wit_yes _ _ _ (by omega) _).mono ?_); rintro e w' ⟨rfl, rfl⟩) | (go_at_call 31; (with_reducible refine (wit_no _ _ _ (by omega) _).mono ?_); rintro e w' ⟨rfl, rfl⟩))
        go_ret
        exact ⟨retI (by rw [STOP.out (by rw [E1.out]; decide), E1.out]), hB1⟩
    · obtain rfl : k = n := by omega
      have hz : errL cs = 0 := by
        have := HA.out
        rwa [List.take_of_length_le (by have := HR.out.1; omega)] at this
      have HZ := Lib.hid hz
      clear hz
      go_wp2
      go_ret
      exact ⟨retI HZ.out.symm, hB⟩

set_option maxRecDepth 100000 in
set_option maxHeartbeats 4000000 in
theorem rvalid_few (a : Option Addr) (n cap : Nat) (cs : List Chg) (hn : n ≤ 1024) (w : World) (hr : ChgRow w w.heap.size a n cs) :
    Calls Try.prog 24 #[.slice a n cap] w fun e w' => e = .returned (.int .i64 (errL cs)) ∧ Below w.heap.size w w' := by
  have HR := Lib.hid hr
  clear hr
  go_enter Try.func24, Try.ntmps24
  go_wp2
  go_loopw [3] (fun x wr => ∃ k : Nat, k ≤ n ∧ x = .int .i64 k ∧ Hid (errL (cs.take k) = 0) ∧ Below w.heap.size w wr) (fun x _ => n - (intOf x).toNat)
  case atStart => exact ⟨0, by omega, rfl, Lib.hid rfl, Below.refl _ _⟩
  case round =>
    obtain ⟨k, hk, rfl, HA, hB⟩ := hrel
    by_cases hlt : k < n
    · have hlen := HR.out.1
      obtain ⟨x, rfl, hx, hc⟩ := (HR.out.below hB).2 (by omega)
      have hk' : k < cs.length := by omega
      obtain ⟨c0, c1, c2, c3⟩ := hc k hlt
      have S := Lib.hid (errL_take cs k HA.out hk')
      have STOP := Lib.hid (errL_stop cs k HA.out hk')
      rw [show cs[k] = cs[k]! by rw [getElem!_pos cs k hk']] at S STOP
      generalize cs[k]! = h at *
      obtain ⟨f, kn, v, d⟩ := h
      simp only at c0 c1 c2 c3
      have hB1 : Below w.heap.size w (wr.alloc (.cells #[.int .i64 f, .int .i64 kn, .int .i64 v, .bool d] 42)) := hB.alloc hB.size _
      clear hc hx hlen hk' HA
      by_cases h1 : 0 ≤ f ∧ f ≤ 84005
      · by_cases h2 : 0 ≤ kn ∧ kn ≤ 2147483647
        · by_cases h3 : -1000000000000 ≤ v ∧ v ≤ 1000000000000
          · have OK : okC ⟨f, kn, v, d⟩ := ⟨h1.1, h1.2, h2.1, h2.2, h3.1, h3.2⟩
            have E0 := Lib.hid (show errC ⟨f, kn, v, d⟩ = if d = true ∧ v ≠ 0 then 1 else 0 from if_pos OK)
            clear OK
            cases d
            · have E1 := Lib.hid (show errC ⟨f, kn, v, false⟩ = 0 by rw [E0.out]; simp)
              have p1 : decide (f < 0) = false := decide_eq_false (by omega)
              have p2 : decide (84005 < f) = false := decide_eq_false (by omega)
              have p3 : decide (kn < 0) = false := decide_eq_false (by omega)
              have p4 : decide (2147483647 < kn) = false := decide_eq_false (by omega)
              have p5 : decide (v < -1000000000000) = false := decide_eq_false (by omega)
              have p6 : decide (1000000000000 < v) = false := decide_eq_false (by omega)
              go_wp2_with fail
              go_roundw
              case rel => exact ⟨k + 1, by omega, by go_num, Lib.hid (S.out.trans E1.out), hB1⟩
              case measure => simp [intOf]; omega
            · by_cases h4 : v = 0
              · subst h4
                have E1 := Lib.hid (show errC ⟨f, kn, 0, true⟩ = 0 by rw [E0.out]; simp)
                have p1 : decide (f < 0) = false := decide_eq_false (by omega)
                have p2 : decide (84005 < f) = false := decide_eq_false (by omega)
                have p3 : decide (kn < 0) = false := decide_eq_false (by omega)
                have p4 : decide (2147483647 < kn) = false := decide_eq_false (by omega)
                go_wp2_with fail
                go_roundw
                case rel => exact ⟨k + 1, by omega, by go_num, Lib.hid (S.out.trans E1.out), hB1⟩
                case measure => simp [intOf]; omega
              · have E1 := Lib.hid (show errC ⟨f, kn, v, true⟩ = 1 by rw [E0.out]; simp [h4])
                have hv : (v != 0) = true := by simpa using h4
                have p1 : decide (f < 0) = false := decide_eq_false (by omega)
                have p2 : decide (84005 < f) = false := decide_eq_false (by omega)
                have p3 : decide (kn < 0) = false := decide_eq_false (by omega)
                have p4 : decide (2147483647 < kn) = false := decide_eq_false (by omega)
                have p5 : decide (v < -1000000000000) = false := decide_eq_false (by omega)
                have p6 : decide (1000000000000 < v) = false := decide_eq_false (by omega)
                go_wp2_with fail
                go_ret
                exact ⟨retI (by rw [STOP.out (by rw [E1.out]; decide), E1.out]), hB1⟩
          · have E1 := Lib.hid (show errC ⟨f, kn, v, d⟩ = 2 from if_neg fun o => h3 ⟨o.2.2.2.2.1, o.2.2.2.2.2⟩)
            have p1 : decide (f < 0) = false := decide_eq_false (by omega)
            have p2 : decide (84005 < f) = false := decide_eq_false (by omega)
            have p3 : decide (kn < 0) = false := decide_eq_false (by omega)
            have p4 : decide (2147483647 < kn) = false := decide_eq_false (by omega)
            by_cases q : v < -1000000000000
            · have q1 : decide (v < -1000000000000) = true := decide_eq_true q
              go_wp2_with fail
              go_ret
              exact ⟨retI (by rw [STOP.out (by rw [E1.out]; decide), E1.out]), hB1⟩
            · have q1 : decide (v < -1000000000000) = false := decide_eq_false q
              have q2 : decide (1000000000000 < v) = true := decide_eq_true (by omega)
              go_wp2_with fail
              go_ret
              exact ⟨retI (by rw [STOP.out (by rw [E1.out]; decide), E1.out]), hB1⟩
        · have E1 := Lib.hid (show errC ⟨f, kn, v, d⟩ = 2 from if_neg fun o => h2 ⟨o.2.2.1, o.2.2.2.1⟩)
          have p1 : decide (f < 0) = false := decide_eq_false (by omega)
          have p2 : decide (84005 < f) = false := decide_eq_false (by omega)
          by_cases q : kn < 0
          · have q1 : decide (kn < 0) = true := decide_eq_true q
            go_wp2_with fail
            go_ret
            exact ⟨retI (by rw [STOP.out (by rw [E1.out]; decide), E1.out]), hB1⟩
          · have q1 : decide (kn < 0) = false := decide_eq_false q
            have q2 : decide (2147483647 < kn) = true := decide_eq_true (by omega)
            go_wp2_with fail
            go_ret
            exact ⟨retI (by rw [STOP.out (by rw [E1.out]; decide), E1.out]), hB1⟩
      · have E1 := Lib.hid (show errC ⟨f, kn, v, d⟩ = 2 from if_neg fun o => h1 ⟨o.1, o.2.1⟩)
        by_cases q : f < 0
        · have q1 : decide (f < 0) = true := decide_eq_true q
          go_wp2_with fail
          go_ret
          exact ⟨retI (by rw [STOP.out (by rw [E1.out]; decide), E1.out]), hB1⟩
        · have q1 : decide (f < 0) = false := decide_eq_false q
          have q2 : decide (84005 < f) = true := decide_eq_true (by omega)
          go_wp2_with fail
          go_ret
          exact ⟨retI (by rw [STOP.out (by rw [E1.out]; decide), E1.out]), hB1⟩
    · obtain rfl : k = n := by omega
      have hz : errL cs = 0 := by
        have := HA.out
        rwa [List.take_of_length_le (by have := HR.out.1; omega)] at this
      have HZ := Lib.hid hz
      clear hz
      go_wp2
      go_ret
      exact ⟨retI HZ.out.symm, hB⟩

theorem valid_any (a : Option Addr) (n cap : Nat) (cs : List Chg) (hn : n ≤ 9223372036854775807) (w : World) (hr : ChgRow w w.heap.size a n cs) :
    Calls Try.prog 23 #[.slice a n cap] w fun e w' => e = .returned (.int .i64 (valE cs)) ∧ Below w.heap.size w w' := by
  by_cases h : n ≤ 1024
  · have := valid_few a n cap cs h w hr
    rwa [show errL cs = valE cs by unfold valE; rw [if_neg (by have := hr.1; omega)]] at this
  · have e : valE cs = 3 := by unfold valE; rw [if_pos (by have := hr.1; omega)]
    rw [e]
    clear hr e
    go_enter Try.func23, Try.ntmps23
    go_wp2
    go_ret
    exact ⟨rfl, Below.refl _ _⟩

theorem rvalid_any (a : Option Addr) (n cap : Nat) (cs : List Chg) (hn : n ≤ 9223372036854775807) (w : World) (hr : ChgRow w w.heap.size a n cs) :
    Calls Try.prog 24 #[.slice a n cap] w fun e w' => e = .returned (.int .i64 (valE cs)) ∧ Below w.heap.size w w' := by
  by_cases h : n ≤ 1024
  · have := rvalid_few a n cap cs h w hr
    rwa [show errL cs = valE cs by unfold valE; rw [if_neg (by have := hr.1; omega)]] at this
  · have e : valE cs = 3 := by unfold valE; rw [if_pos (by have := hr.1; omega)]
    rw [e]
    clear hr e
    go_enter Try.func24, Try.ntmps24
    go_wp2
    go_ret
    exact ⟨rfl, Below.refl _ _⟩
end Go.Proofs.Ytdpgmjmmnjbbiaa.Tl
