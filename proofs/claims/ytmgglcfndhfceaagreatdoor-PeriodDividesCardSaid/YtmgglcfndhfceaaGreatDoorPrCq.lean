/-
  The generator's Holidays: whatever the tape holds, a list of at most four rules (valid, unless wild). Condition: the tape's block reads as a tape.
-/
import Derived.Test.YtmgglcfndhfceaaGreatDoorPrTp
import Derived.Test.YtmgglcfndhfceaaGreatDoorPrCs
namespace Go.Proofs.YtmgglcfndhfceaaGreatDoor.Tp
open Go Go.RowKit Go.Lib Go.Proofs.YtmgglcfndhfceaaGreatDoor

def hcells (h : Cal.Hol) : List Value := [.int .i64 h.kind, .int .i64 h.month, .int .i64 h.day, .int .i64 h.wday, .int .i64 h.off, .bool h.moved]
theorem hcells_at : ∀ (hs : List Cal.Hol) (i j : Nat) (hi : i < hs.length), j < 6 → (hs.flatMap hcells)[i * 6 + j]? = (hcells hs[i])[j]?
  | h :: hs, 0, j, _, hj => by
    rw [List.flatMap_cons, List.getElem?_append_left (by simp [hcells]; omega)]; simp
  | h :: hs, i + 1, j, hi, hj => by
    rw [List.flatMap_cons, List.getElem?_append_right (by simp [hcells]; omega)]
    have := hcells_at hs i j (by simpa using hi) hj
    rw [show (i + 1) * 6 + j - (hcells h).length = i * 6 + j by simp [hcells]; omega]
    simpa using this
theorem hcells_len (hs : List Cal.Hol) : (hs.flatMap hcells).length = hs.length * 6 := by
  induction hs with
  | nil => rfl
  | cons h hs ih => rw [List.flatMap_cons, List.length_append, ih, List.length_cons]; simp [hcells]; omega
theorem add_field (x : Addr) (i j : Nat) (hj : 0 < j) : (⟨(x.add (i * 6)).block, (x.add (i * 6)).off + j, none⟩ : Addr) = x.add (i * 6 + j) := by
  have e : x.add (i * 6 + j) = ⟨x.block, x.off + (i * 6 + j), none⟩ := by unfold Addr.add; rw [if_neg (by omega)]
  rw [e]
  unfold Addr.add
  split
  · rename_i h; rw [show i * 6 + j = j by omega]
  · simp [Nat.add_assoc]
theorem holRow_mk {w : World} {x : Addr} {B n : Nat} {hs : List Cal.Hol} (hn : hs.length = n) (hx : x.block < B) (h : ∀ k u, (hs.flatMap hcells)[k]? = some u → w.cell? (x.add k) = some u) : HolRow w B (some x) n hs := by
  refine ⟨hn, fun _ => ⟨x, rfl, hx, fun i hi => ?_⟩⟩
  have c : ∀ j, j < 6 → ∀ u, (hcells hs[i])[j]? = some u → w.cell? (x.add (i * 6 + j)) = some u := fun j hj u hu => h _ u (by rw [hcells_at hs i j hi hj]; exact hu)
  refine ⟨by have := c 0 (by omega) _ rfl; simpa using this, ?_, ?_, ?_, ?_, ?_⟩
  all_goals rw [add_field _ _ _ (by omega)]
  · exact c 1 (by omega) _ rfl
  · exact c 2 (by omega) _ rfl
  · exact c 3 (by omega) _ rfl
  · exact c 4 (by omega) _ rfl
  · exact c 5 (by omega) _ rfl
theorem holRow_own {w : World} {base : Nat} {e : TypeId} {v : Value} {n : Nat} {hs : List Cal.Hol} (hn : hs.length = n) (h : w.ownsRow base e 6 v n (hs.flatMap hcells)) : ∃ A cap, v = .slice A n cap ∧ HolRow w w.heap.size A n hs ∧ ∀ y, A = some y → base ≤ y.block := by
  rcases h.2 with ⟨rfl, h0⟩ | ⟨g, cap, cur, rfl, hb, hg, _⟩
  · exact ⟨_, _, by rw [h0], ⟨hn, fun h => by omega⟩, fun y e => by cases e⟩
  · have hlt : g < w.heap.size := (Array.getElem?_eq_some_iff.1 hg).1
    exact ⟨_, _, rfl, holRow_mk hn hlt fun k u hu => h.cells (g := g) rfl k u hu, fun y e => by injection e with e; subst e; exact hb⟩

def allH : List Cal.Hol := [⟨0, 1, 1, 0, 0, false⟩, ⟨0, 12, 25, 0, 0, true⟩, ⟨0, 2, 29, 0, 0, false⟩, ⟨1, 0, 0, 0, 1, false⟩, ⟨1, 0, 0, 0, -2, false⟩, ⟨1, 0, 0, 0, -100, false⟩, ⟨2, 11, 4, 3, 0, false⟩, ⟨2, 1, -1, 0, 0, false⟩, ⟨2, 1, 1, 5, 0, true⟩, ⟨2, 12, 5, 3, 7, false⟩, ⟨2, 1, 1, 4, -7, false⟩]
theorem allH_ok : ∀ i : Nat, (h : i < allH.length) → allH[i].ok = true := by
  have h : allH.all Cal.Hol.ok = true := by decide
  exact fun i hi => (List.all_eq_true.mp h) _ (List.getElem_mem hi)
theorem infoHol : (Tryz.prog.info? 53).map (fun i => (i.zero, i.size, i.bytes)) = some (some (.agg #[.int .i64 0, .int .i64 0, .int .i64 0, .int .i64 0, .int .i64 0, .bool false]), 6, 48) := by kernel_rfl

/-- What the generator's Holidays leaves. -/
def HolsP (b : Nat) (wild : Bool) (w : World) (e : Ending) (w' : World) : Prop :=
  ∃ (A : Option Addr) (n cap : Nat) (hs : List Cal.Hol), e = .returned (.slice A n cap) ∧ n ≤ 4 ∧ HolRow w' w'.heap.size A n hs ∧ (∀ y, A = some y → b < y.block) ∧ (wild = false → hs.all Cal.Hol.ok = true) ∧ TapeAt b w' ∧ Only b w w'
theorem holRow_only {u v : World} {b B n : Nat} {x : Addr} {hs : List Cal.Hol} (h : HolRow u B (some x) n hs) (hO : Only b u v) (hne : x.block ≠ b) : HolRow v B (some x) n hs := by
  refine ⟨h.1, fun hn => ?_⟩
  obtain ⟨y, e, hy, hc⟩ := h.2 hn
  injection e with e
  subst e
  have k : ∀ i, (x.add i).block ≠ b := fun i => by rw [addB]; exact hne
  refine ⟨x, rfl, hy, fun i hi => ?_⟩
  obtain ⟨c0, c1, c2, c3, c4, c5⟩ := hc i hi
  exact ⟨hO.cell c0 (k _), hO.cell c1 (k _), hO.cell c2 (k _), hO.cell c3 (k _), hO.cell c4 (k _), hO.cell c5 (k _)⟩
theorem own_only {u v : World} {b base : Nat} {e : TypeId} {size n : Nat} {x : Value} {xs : List Value} (h : u.ownsRow base e size x n xs) (hO : Only b u v) (hb : b < base) : v.ownsRow base e size x n xs :=
  h.kept (row := some b) ⟨hO.os, hO.tape, hO.output, hO.size, fun k hk hn => hO.block k hk (fun e => hn (by rw [e]))⟩ (by
    rcases ho : x.ownBlock with _ | g
    · exact .inl rfl
    · exact .inr (fun e => by injection e with e; have := (h.lt g ho).1; omega))
theorem tape_belowB {b B : Nat} {u v : World} (h : TapeAt b u) (hb : Below B u v) (hB : b < B) : TapeAt b v := by
  obtain ⟨a, len, cap, zs, k, h1, h2, h3, h4, h5, h6⟩ := h
  refine ⟨a, len, cap, zs, k, (hb.cell (p := ⟨b, 0, none⟩) hB).trans h1, (hb.cell (p := ⟨b, 1, none⟩) hB).trans h2, (hb.frozen (p := ⟨b, 1, none⟩) hB).trans h3, h4, h5, ?_⟩
  rcases h6 with h | ⟨x, ha, hx, hc⟩
  · exact .inl h
  · exact .inr ⟨x, ha, hx, fun i hi => ⟨(hb.cell (by rw [add_block]; omega)).trans (hc i hi).1, (hc i hi).2⟩⟩
theorem only_belowB {b B : Nat} {w u v : World} (h : Only b w u) (hb : Below B u v) (hB : w.heap.size ≤ B) : Only b w v :=
  ⟨hb.os.trans h.os, hb.tape.trans h.tape, hb.output.trans h.output, Nat.le_trans h.size hb.size, fun k hk hn => (hb.block k (by omega)).trans (h.block k hk hn)⟩
theorem four (w : World) (x y z q : Int) (t : TypeId) : ∀ i, i < ([x, y, z, q] : List Int).length → (w.alloc (.cells #[.int .i64 x, .int .i64 y, .int .i64 z, .int .i64 q] t)).cell? ⟨w.heap.size, i, none⟩ = some (.int .i64 (([x, y, z, q] : List Int).getD i 0)) := by
  intro i hi
  rcases i with _ | _ | _ | _ | i
  · go_simp
  · go_simp
  · go_simp
  · go_simp
  · simp at hi; omega
theorem add0 (B n : Nat) : (⟨B, 0, none⟩ : Addr).add n = ⟨B, n, none⟩ := by unfold Addr.add; split <;> simp_all
theorem alloc_cells (w : World) (cs : Array Value) (t : TypeId) (k : Nat) (u : Value) (h : cs.toList[k]? = some u) : (w.alloc (.cells cs t)).cell? ((⟨w.heap.size, 0, none⟩ : Addr).add k) = some u := by
  have e : (⟨w.heap.size, 0, none⟩ : Addr).add k = ⟨w.heap.size, k, none⟩ := by unfold Addr.add; split <;> simp_all
  rw [e, World.cell?_alloc_at _ _ _ _ rfl]
  simpa using h

set_option maxRecDepth 100000 in
set_option maxHeartbeats 8000000 in
theorem thol_any (b : Nat) (wild : Bool) (w : World) (h : TapeAt b w) :
    Calls Tryz.prog 10 #[.pointer (some ⟨b, 0, none⟩), .bool wild] w (HolsP b wild w) := by
  obtain ⟨i0, hi0, hz0, hz1, hz2⟩ := info_parts infoHol
  have HI := Lib.hid (And.intro hi0 (And.intro hz0 (And.intro hz1 hz2)))
  clear hi0 hz0 hz1 hz2
  have hb := h.lt
  have W : Hid (HolRow (w.alloc (.cells #[.int .i64 0, .int .i64 1, .int .i64 1, .int .i64 0, .int .i64 0, .bool false, .int .i64 0, .int .i64 12, .int .i64 25, .int .i64 0, .int .i64 0, .bool true, .int .i64 0, .int .i64 2, .int .i64 29, .int .i64 0, .int .i64 0, .bool false, .int .i64 1, .int .i64 0, .int .i64 0, .int .i64 0, .int .i64 1, .bool false, .int .i64 1, .int .i64 0, .int .i64 0, .int .i64 0, .int .i64 (-2), .bool false, .int .i64 1, .int .i64 0, .int .i64 0, .int .i64 0, .int .i64 (-100), .bool false, .int .i64 2, .int .i64 11, .int .i64 4, .int .i64 3, .int .i64 0, .bool false, .int .i64 2, .int .i64 1, .int .i64 (-1), .int .i64 0, .int .i64 0, .bool false, .int .i64 2, .int .i64 1, .int .i64 1, .int .i64 5, .int .i64 0, .bool true, .int .i64 2, .int .i64 12, .int .i64 5, .int .i64 3, .int .i64 7, .bool false, .int .i64 2, .int .i64 1, .int .i64 1, .int .i64 4, .int .i64 (-7), .bool false] 53)) (w.heap.size + 1) (some ⟨w.heap.size, 0, none⟩) 11 allH) := Lib.hid (holRow_mk rfl (by simp) fun k u hu => alloc_cells _ _ _ k u hu)
  have HT := Lib.hid (TapeAt.alloc h (.cells #[.int .i64 0, .int .i64 1, .int .i64 1, .int .i64 0, .int .i64 0, .bool false, .int .i64 0, .int .i64 12, .int .i64 25, .int .i64 0, .int .i64 0, .bool true, .int .i64 0, .int .i64 2, .int .i64 29, .int .i64 0, .int .i64 0, .bool false, .int .i64 1, .int .i64 0, .int .i64 0, .int .i64 0, .int .i64 1, .bool false, .int .i64 1, .int .i64 0, .int .i64 0, .int .i64 0, .int .i64 (-2), .bool false, .int .i64 1, .int .i64 0, .int .i64 0, .int .i64 0, .int .i64 (-100), .bool false, .int .i64 2, .int .i64 11, .int .i64 4, .int .i64 3, .int .i64 0, .bool false, .int .i64 2, .int .i64 1, .int .i64 (-1), .int .i64 0, .int .i64 0, .bool false, .int .i64 2, .int .i64 1, .int .i64 1, .int .i64 5, .int .i64 0, .bool true, .int .i64 2, .int .i64 12, .int .i64 5, .int .i64 3, .int .i64 7, .bool false, .int .i64 2, .int .i64 1, .int .i64 1, .int .i64 4, .int .i64 (-7), .bool false] 53))
  have HO := Lib.hid (Only.alloc (Only.refl b w) (.cells #[.int .i64 0, .int .i64 1, .int .i64 1, .int .i64 0, .int .i64 0, .bool false, .int .i64 0, .int .i64 12, .int .i64 25, .int .i64 0, .int .i64 0, .bool true, .int .i64 0, .int .i64 2, .int .i64 29, .int .i64 0, .int .i64 0, .bool false, .int .i64 1, .int .i64 0, .int .i64 0, .int .i64 0, .int .i64 1, .bool false, .int .i64 1, .int .i64 0, .int .i64 0, .int .i64 0, .int .i64 (-2), .bool false, .int .i64 1, .int .i64 0, .int .i64 0, .int .i64 0, .int .i64 (-100), .bool false, .int .i64 2, .int .i64 11, .int .i64 4, .int .i64 3, .int .i64 0, .bool false, .int .i64 2, .int .i64 1, .int .i64 (-1), .int .i64 0, .int .i64 0, .bool false, .int .i64 2, .int .i64 1, .int .i64 1, .int .i64 5, .int .i64 0, .bool true, .int .i64 2, .int .i64 12, .int .i64 5, .int .i64 3, .int .i64 7, .bool false, .int .i64 2, .int .i64 1, .int .i64 1, .int .i64 4, .int .i64 (-7), .bool false] 53))
  clear h
  go_enter Tryz.func10, Tryz.ntmps10
  go_wp2_with fail
  generalize w.alloc (.cells #[.int .i64 0, .int .i64 1, .int .i64 1, .int .i64 0, .int .i64 0, .bool false, .int .i64 0, .int .i64 12, .int .i64 25, .int .i64 0, .int .i64 0, .bool true, .int .i64 0, .int .i64 2, .int .i64 29, .int .i64 0, .int .i64 0, .bool false, .int .i64 1, .int .i64 0, .int .i64 0, .int .i64 0, .int .i64 1, .bool false, .int .i64 1, .int .i64 0, .int .i64 0, .int .i64 0, .int .i64 (-2), .bool false, .int .i64 1, .int .i64 0, .int .i64 0, .int .i64 0, .int .i64 (-100), .bool false, .int .i64 2, .int .i64 11, .int .i64 4, .int .i64 3, .int .i64 0, .bool false, .int .i64 2, .int .i64 1, .int .i64 (-1), .int .i64 0, .int .i64 0, .bool false, .int .i64 2, .int .i64 1, .int .i64 1, .int .i64 5, .int .i64 0, .bool true, .int .i64 2, .int .i64 12, .int .i64 5, .int .i64 3, .int .i64 7, .bool false, .int .i64 2, .int .i64 1, .int .i64 1, .int .i64 4, .int .i64 (-7), .bool false] 53) = w1 at W HT HO
  refine (next_any b 4 (by omega) (by omega) _ HT.out).mono ?_
  rintro e w2 ⟨v1, rfl, a0, a1, T1, O1⟩
  have HT1 := Lib.hid T1
  have HO1 := Lib.hid (HO.out.trans O1)
  have HR1 := Lib.hid (holRow_only W.out O1 (by simp only; omega))
  clear T1 O1
  go_wp2_with fail
  go_loopw [6, 7] (fun x z wr => ∃ (k : Nat) (hs : List Cal.Hol), k ≤ 3 ∧ z = .int .i64 k ∧ hs.length + k ≤ 3 ∧ Hid (hs.all Cal.Hol.ok = true) ∧ Hid (wr.ownsRow (w.heap.size + 1) 53 6 x hs.length (hs.flatMap hcells)) ∧ Hid (TapeAt b wr) ∧ Hid (Only b w wr) ∧ Hid (HolRow wr (w.heap.size + 1) (some ⟨w.heap.size, 0, none⟩) 11 allH)) (fun _ z _ => (intOf z).toNat)
  case atStart =>
    obtain ⟨k, rfl⟩ := Int.eq_ofNat_of_zero_le a0
    exact ⟨k, [], by omega, rfl, by simp; omega, Lib.hid rfl, Lib.hid (World.ownsRow_nil _ _ _ _), HT1, HO1, HR1⟩
  case round =>
    clear HT1 HO1 HR1 HT HO W a0 a1
    obtain ⟨k, hs, hk, rfl, hl, HA, HW, HT, HO, HR⟩ := hrel
    by_cases h0 : 0 < k
    · go_wp2_with fail
      refine (next_any b 11 (by omega) (by omega) _ HT.out).mono ?_
      rintro e w3 ⟨v3, rfl, c0, c1, T3, O3⟩
      obtain ⟨j, rfl⟩ := Int.eq_ofNat_of_zero_le c0
      have HT3 := Lib.hid T3
      have HO3 := Lib.hid (HO.out.trans O3)
      have HW3 := Lib.hid (own_only HW.out O3 (by omega))
      have HR3 := Lib.hid (holRow_only HR.out O3 (by simp only; omega))
      clear T3 O3 HW HT HO HR
      obtain ⟨y, e1, _, hc⟩ := HR3.out.2 (by omega)
      injection e1 with e1
      subst e1
      have hj : j < allH.length := by have : allH.length = 11 := rfl; omega
      obtain ⟨q0, q1, q2, q3, q4, q5⟩ := hc j hj
      have hok := Lib.hid (allH_ok j hj)
      generalize allH[j] = r at q0 q1 q2 q3 q4 q5 hok
      clear hc
      simp only [add0] at q0 q1 q2 q3 q4 q5
      go_wp2_with (at_builtin; refine wpList_append_own _ rfl _ _ 23 rfl (w.heap.size + 1) 53 i0 (.agg #[.int .i64 0, .int .i64 0, .int .i64 0, .int .i64 0, .int .i64 0, .bool false]) 6 48 Tryz.underlying23 HI.out.1 HI.out.2.1 HI.out.2.2.1 HI.out.2.2.2 rfl (by decide) _ _ _ rfl (HW3.out.alloc _) ⟨w3.heap.size, 0, none⟩ 1 1 (hcells r) rfl rfl ?c1 ?c2 ?c3 ?c4 ?c5 ?_)
      case c1 =>
        intro i u hu
        exact alloc_cells _ _ _ i u hu
      case c2 => intro u hu; simp [hcells] at hu; rcases hu with rfl | rfl | rfl | rfl | rfl | rfl <;> rfl
      case c3 => unfold maxLen; omega
      case c4 => omega
      case c5 => have := HO3.out.size; simp; omega
      intro v2 w4 hown2 hgrow2 _
      have hB4 : Below (w.heap.size + 1) w3 w4 := Below.grown (Below.alloc (Below.refl _ _) (by have := World.block_lt_of_cell? w3 _ q0; simp only at this; omega) _) hgrow2 (by have := World.block_lt_of_cell? w3 _ q0; simp only at this; simp; omega) (fun g hg => (HW3.out.lt g hg).1)
      have HT4 := Lib.hid (tape_belowB HT3.out hB4 (by omega))
      have HO4 := Lib.hid (only_belowB HO3.out hB4 (by omega))
      have HR4 := Lib.hid (HR3.out.below hB4)
      have HW4 := Lib.hid hown2
      clear hown2 hgrow2 hB4
      go_wp2_with fail
      go_roundw
      case rel => exact ⟨k - 1, hs ++ [r], by omega, by congr 1; omega, by simp; omega, Lib.hid (by rw [List.all_append, HA.out]; simp [hok.out]), Lib.hid (by have := HW4.out; simpa using this), HT4, HO4, HR4⟩
      case measure => simp [intOf]; omega
    · obtain rfl : k = 0 := by omega
      have szr : w.heap.size < wr.heap.size := by
        obtain ⟨y, e1, _, hc⟩ := HR.out.2 (by omega)
        injection e1 with e1
        subst e1
        have := World.block_lt_of_cell? wr _ (hc 0 (by decide)).1
        rwa [addB] at this
      obtain ⟨A, cap, hx, hRow⟩ := holRow_own rfl HW.out
      subst hx
      have HRow := Lib.hid hRow
      clear hRow
      rcases wild with _ | _
      · go_wp2_with fail
        go_ret
        exact ⟨A, _, cap, hs, rfl, by omega, HRow.out.1, (fun y e => Nat.lt_of_lt_of_le (Nat.lt_succ_of_lt hb) (HRow.out.2 y e)), fun _ => HA.out, HT.out, HO.out⟩
      · go_wp2_with fail
        refine (next_any b 6 (by omega) (by omega) _ HT.out).mono ?_
        rintro e w3 ⟨v3, rfl, c0, c1, T3, O3⟩
        have HT3 := Lib.hid T3
        have HO3 := Lib.hid (HO.out.trans O3)
        have HW3 := Lib.hid (own_only HW.out O3 (by omega))
        have sz3 : w.heap.size < w3.heap.size := by have := O3.size; omega
        clear T3 O3 HW HT HO HR HRow szr
        by_cases h5 : v3 = 5
        · subst h5
          go_wp2_with fail
          refine (next_any b 4 (by omega) (by omega) _ HT3.out).mono ?_
          rintro e w4 ⟨v4, rfl, d0, d1, T4, O4⟩
          go_wp2_with fail
          refine (next_any b 14 (by omega) (by omega) _ T4).mono ?_
          rintro e w5 ⟨v5, rfl, e0, e1, T5, O5⟩
          have O35 := O4.trans O5
          clear T4 O4 O5
          go_wp2_with fail
          refine (pick_any b w5.heap.size [0, 6, 31, -1] (by simp) (by simp) (by have := T5.lt; omega) _ (T5.alloc _) (four w5 _ _ _ _ _)).mono ?_
          rintro e w6 ⟨v6, rfl, m6, T6, O6⟩
          have O36 := (O35.alloc (.cells #[.int .i64 0, .int .i64 6, .int .i64 31, .int .i64 (-1)] 3)).trans O6
          clear T5 O35 O6
          go_wp2_with fail
          refine (next_any b 8 (by omega) (by omega) _ T6).mono ?_
          rintro e w7 ⟨v7, rfl, f0, f1, T7, O7⟩
          have O37 := O36.trans O7
          clear T6 O36 O7
          go_wp2_with fail
          refine (pick_any b w7.heap.size [0, 8, 101] (by simp) (by simp) (by have := T7.lt; omega) _ (T7.alloc _) (three w7 _ _ _ _)).mono ?_
          rintro e w8 ⟨v8, rfl, m8, T8, O8⟩
          have O38 := (O37.alloc (.cells #[.int .i64 0, .int .i64 8, .int .i64 101] 3)).trans O8
          have HT8 := Lib.hid T8
          have HO8 := Lib.hid (HO3.out.trans O38)
          have HW8 := Lib.hid (own_only HW3.out O38 (by omega))
          have sz8 : w.heap.size + 1 ≤ w8.heap.size := by have := O38.size; omega
          clear T7 O37 T8 O8 O38 m6 m8 HT3 HO3 HW3
          go_wp2_with (at_builtin; refine wpList_append_own _ rfl _ _ 23 rfl (w.heap.size + 1) 53 i0 (.agg #[.int .i64 0, .int .i64 0, .int .i64 0, .int .i64 0, .int .i64 0, .bool false]) 6 48 Tryz.underlying23 HI.out.1 HI.out.2.1 HI.out.2.2.1 HI.out.2.2.2 rfl (by decide) _ _ _ rfl (HW8.out.alloc _) ⟨w8.heap.size, 0, none⟩ 1 1 (hcells ⟨v4, v5, v6, v7, v8, false⟩) rfl rfl ?d1 ?d2 ?d3 ?d4 ?d5 ?_)
          case d1 =>
            intro i u hu
            exact alloc_cells _ _ _ i u hu
          case d2 => intro u hu; simp [hcells] at hu; rcases hu with rfl | rfl | rfl | rfl | rfl | rfl <;> rfl
          case d3 => unfold maxLen; omega
          case d4 => omega
          case d5 => simp; omega
          intro v2 w9 hown2 hgrow2 _
          have hB9 : Below (w.heap.size + 1) w8 w9 := Below.grown (Below.alloc (Below.refl _ _) sz8 _) hgrow2 (by simp; omega) (fun g hg => (HW8.out.lt g hg).1)
          have HT9 := Lib.hid (tape_belowB HT8.out hB9 (by omega))
          have HO9 := Lib.hid (only_belowB HO8.out hB9 (by omega))
          obtain ⟨A2, cap2, hx2, hRow⟩ := holRow_own (hs := hs ++ [⟨v4, v5, v6, v7, v8, false⟩]) (n := hs.length + 1) (by simp) (by have := hown2; simpa using this)
          subst hx2
          have HRow := Lib.hid hRow
          clear hown2 hgrow2 hB9 hRow
          go_wp2_with fail
          go_ret
          exact ⟨A2, _, cap2, _, rfl, by omega, HRow.out.1, (fun y e => Nat.lt_of_lt_of_le (Nat.lt_succ_of_lt hb) (HRow.out.2 y e)), (fun h => by cases h), HT9.out, HO9.out⟩
        · have h5' : (v3 == 5) = false := by simp; omega
          obtain ⟨A2, cap2, hx2, hRow⟩ := holRow_own rfl HW3.out
          injection hx2 with e1 e2 e3
          subst e1 e3
          have HRow := Lib.hid hRow
          clear h5 hRow
          go_wp2_with fail
          go_ret
          exact ⟨_, _, _, hs, rfl, by omega, HRow.out.1, (fun y e => Nat.lt_of_lt_of_le (Nat.lt_succ_of_lt hb) (HRow.out.2 y e)), (fun h => by cases h), HT3.out, HO3.out⟩
end Go.Proofs.YtmgglcfndhfceaaGreatDoor.Tp
