/-
  Layer 2 (rounding): the contract of divide at up to 1024 weights. Conditions: the weights lie in memory, are from 0 to the greatest amount, and their sum is positive; the total is from 0 to the greatest amount.
-/
import Derived.Test.YtmgglcfndhfceaaGreatDoorPrShare
import Derived.Test.YtmgglcfndhfceaaGreatDoorPrSu
import Derived.Laws.EntriesVeiled
namespace Go.Proofs.YtmgglcfndhfceaaGreatDoor
open Go Go.RowKit Go.Lib Go.Sort Go.Shelf Go.Proofs Go.Proofs.YtmgglcfndhfceaaGreatDoor.Mg
set_option linter.unusedVariables false

/-- What the first loop keeps, behind k rounds. B: the heap's size when the call began. -/
structure DivI (w : World) (B : Nat) (T s : Int) (x : Addr) (n cap : Nat) (g : Nat → Int) (k : Nat) (wr : World) : Prop where
  total : wr.cell? ⟨B, 0, none⟩ = some (.int .i64 T)
  sum : wr.cell? ⟨B + 1, 0, none⟩ = some (.int .i64 s)
  wts : wr.cell? ⟨B + 2, 0, none⟩ = some (.slice (some x) n cap)
  row : WRow wr x n g
  parts : RowI wr (B + 3) n (fun i => if i < k then baseF T s g i else 0)
  order : RowI wr (B + 4) n (fun i => if i < k then (i : Int) else 0)
  below : Below B w wr
  size : wr.heap.size = B + 5
theorem DivI.step {w wr : World} {B : Nat} {T s : Int} {x : Addr} {n cap : Nat} {g : Nat → Int} {k : Nat} (h : DivI w B T s x n cap g k wr) (hk : k < n) (hx : x.block < B) :
    DivI w B T s x n cap g (k + 1) ((wr.setCell ⟨B + 3, k, none⟩ (.int .i64 (baseF T s g k))).setCell ⟨B + 4, k, none⟩ (.int .i64 (k : Int))) := by
  have far : ∀ b, b ≠ B + 3 → b ≠ B + 4 → ((wr.setCell ⟨B + 3, k, none⟩ (.int .i64 (baseF T s g k))).setCell ⟨B + 4, k, none⟩ (.int .i64 (k : Int))).heap[b]? = wr.heap[b]? := fun b h3 h4 => by
    rw [Below.heap_setCell _ _ _ b (by simpa using h4), Below.heap_setCell _ _ _ b (by simpa using h3)]
  refine ⟨(World.cell?_of_block (a := ⟨B, 0, none⟩) (far B (by omega) (by omega))).trans h.total, (World.cell?_of_block (a := ⟨B + 1, 0, none⟩) (far (B + 1) (by omega) (by omega))).trans h.sum, (World.cell?_of_block (a := ⟨B + 2, 0, none⟩) (far (B + 2) (by omega) (by omega))).trans h.wts, h.row.keep (far _ (by omega) (by omega)), ?_, ?_, (h.below.setCell (by simp) _).setCell (by simp) _, by simpa using h.size⟩
  · refine ((h.parts.set hk (baseF T s g k)).far (by simp) _).congr fun i hi => ?_
    by_cases e : i = k
    · subst e; rw [if_pos rfl, if_pos (by omega)]
    · rw [if_neg e]
      by_cases e2 : i < k
      · rw [if_pos e2, if_pos (by omega)]
      · rw [if_neg e2, if_neg (by omega)]
  · refine ((h.order.far (p := ⟨B + 3, k, none⟩) (by simp) _).set hk (k : Int)).congr fun i hi => ?_
    by_cases e : i = k
    · subst e; rw [if_pos rfl, if_pos (by omega)]
    · rw [if_neg e]
      by_cases e2 : i < k
      · rw [if_pos e2, if_pos (by omega)]
      · rw [if_neg e2, if_neg (by omega)]

theorem divI_start (w : World) (T s : Int) (x : Addr) (n cap : Nat) (g : Nat → Int) (hx : x.block < w.heap.size) (hrow : WRow w x n g) (t1 t2 : TypeId) :
    DivI w w.heap.size T s x n cap g 0 (((((w.alloc (.cells #[.int .i64 T] t1)).alloc (.cells #[.int .i64 s] t1)).alloc (.cells #[.slice (some x) n cap] t2)).alloc (.cells (zerosN n) t1)).alloc (.cells (zerosN n) t1)) := by
  have b1 : Below w.heap.size w (((((w.alloc (.cells #[.int .i64 T] t1)).alloc (.cells #[.int .i64 s] t1)).alloc (.cells #[.slice (some x) n cap] t2)).alloc (.cells (zerosN n) t1)).alloc (.cells (zerosN n) t1)) :=
    ((((((Below.refl _ _).alloc (Nat.le_refl _) _).alloc (by simp) _).alloc (by simp <;> omega) _).alloc (by simp <;> omega) _).alloc (by simp <;> omega) _)
  have r1 := RowI.new (((w.alloc (.cells #[.int .i64 T] t1)).alloc (.cells #[.int .i64 s] t1)).alloc (.cells #[.slice (some x) n cap] t2)) n t1
  have r2 := RowI.new ((((w.alloc (.cells #[.int .i64 T] t1)).alloc (.cells #[.int .i64 s] t1)).alloc (.cells #[.slice (some x) n cap] t2)).alloc (.cells (zerosN n) t1)) n t1
  refine ⟨by go_simp, by go_simp, by go_simp, hrow.below b1 hx, ?_, ?_, b1, by simp⟩
  · have r3 := r1.alloc (by simp) (.cells (zerosN n) t1)
    simp only [World.size_alloc] at r3
    exact r3.congr fun i hi => by simp
  · simp only [World.size_alloc] at r2
    exact r2.congr fun i hi => by simp

/-- The box of the first closure. -/
def boxF (B : Nat) : Obj := .cells #[.func (.func 74) #[] #[.pointer (some ⟨B, 0, none⟩), .pointer (some ⟨B + 2, 0, none⟩), .pointer (some ⟨B + 1, 0, none⟩)]] 45
theorem divI_caps {w wr : World} {B : Nat} {T s : Int} {x : Addr} {n cap : Nat} {g : Nat → Int} [Inhabited (Fin n)] (h : DivI w B T s x n cap g n wr) (hx : x.block < B) :
    Caps (wr.alloc (boxF B)) B (B + 1) (B + 2) (B + 5) T s x n cap g ∧ Holds encF (wr.alloc (boxF B)) (B + 4) 0 (iotaF n) ∧ RowI (wr.alloc (boxF B)) (B + 3) n (baseF T s g) ∧ Below B w (wr.alloc (boxF B)) ∧ (wr.alloc (boxF B)).heap.size = B + 6 := by
  obtain ⟨c1, c2, c3, c4, c5, c6, c7, c8⟩ := h
  have b1 : Below wr.heap.size wr (wr.alloc (boxF B)) := Below.alloc (Below.refl _ _) (Nat.le_refl _) _
  refine ⟨⟨(b1.cell (p := ⟨B, 0, none⟩) (by simp [c8])).trans c1, (b1.cell (p := ⟨B + 1, 0, none⟩) (by simp [c8])).trans c2, (b1.cell (p := ⟨B + 2, 0, none⟩) (by simp [c8])).trans c3, ?_, c4.below b1 (by omega)⟩, ?_, ?_, c7.alloc (by omega) _, by simp [c8]⟩
  · have h := World.cell?_alloc_at (w := wr) #[.func (.func 74) #[] #[.pointer (some ⟨B, 0, none⟩), .pointer (some ⟨B + 2, 0, none⟩), .pointer (some ⟨B + 1, 0, none⟩)]] 45 (B + 5) 0 c8.symm
    exact h
  · intro j hj
    rw [iota_size] at hj
    have h6 := c6.alloc (by omega) (boxF B)
    rw [Nat.zero_add, iota_at j hj]
    have e := h6.cell j hj
    rw [if_pos hj] at e
    exact ⟨e, h6.free j hj⟩
  · exact (c5.alloc (by omega) (boxF B)).congr fun i hi => if_pos hi

/-- A strictly ascending map of the first n numbers into themselves moves none. -/
theorem asc_id (n : Nat) (σ : Nat → Nat) (h : ∀ i j, i < j → j < n → σ i < σ j) (hb : ∀ i, i < n → σ i < n) : ∀ k, k < n → σ k = k := by
  have lo : ∀ k, k < n → k ≤ σ k := by
    intro k
    induction k with
    | zero => intro _; omega
    | succ k ih => intro hk; have := ih (by omega); have := h k (k + 1) (by omega) hk; omega
  have up : ∀ d k, k + d + 1 = n → σ k + d + 1 ≤ n := by
    intro d
    induction d with
    | zero => intro k hk; have := hb k (by omega); omega
    | succ d ih => intro k hk; have := ih (k + 1) (by omega); have := h k (k + 1) (by omega) (by omega); omega
  intro k hk
  have := lo k hk
  have := up (n - 1 - k) k (by omega)
  omega
section
variable {n : Nat} [Inhabited (Fin n)]
/-- The order of the places: the greater remainder first, equals as they stand. -/
def preF (T s : Int) (g : Nat → Int) (i j : Fin n) : Prop := T * g j % s < T * g i % s ∨ (T * g i % s = T * g j % s ∧ i.val < j.val)
def leF (i j : Fin n) : Prop := i.val < j.val
omit [Inhabited (Fin n)] in
theorem ordP (T s : Int) (g : Nat → Int) : Ord (preF (n := n) T s g) leF (ltOf (cfF T s g)) where
  trans x y z h1 h2 := by unfold preF at *; omega
  yes x y h1 h2 := by rw [cfF_lt] at h2; unfold preF leF at *; simp at h2; omega
  no x y h1 h2 := by rw [cfF_lt] at h2; unfold preF leF at *; simp at h2; omega
theorem iota_le (i j : Nat) (hij : i < j) (hj : j < n) : leF (fn (iotaF n) i) (fn (iotaF n) j) := by
  unfold fn
  rw [iota_at i (by omega), iota_at j hj]
  exact hij
theorem ord_srt (T s : Int) (g : Nat → Int) : Srt (preF T s g) (fn (ordF T s g n)) 0 n := by
  have h := (ins_mrg (ordP T s g) (iotaF n) 0 (iotaF n).size (Nat.zero_le _) (Nat.le_refl _) (fun i j _ hij hj => iota_le i j hij (by rwa [iota_size] at hj))).2.srt
  rw [iota_size] at h
  unfold ordF
  rw [iota_size]
  exact h
theorem ord_hit (T s : Int) (g : Nat → Int) (x : Fin n) : ∃ j, j < n ∧ fn (ordF T s g n) j = x := by
  have hp : (ordF T s g n).toList.Perm (iotaF n).toList := by
    have h := insertionSort_holds (lt := ltOf (cfF T s g)) (swoF T s g) (iotaF n) 0 (iotaF n).size (Nat.zero_le _) (Nat.le_refl _)
    have h1 := h.1.2.2
    have h2 := h.1.1
    unfold ordF
    rw [Array.extract_eq_self_of_le (by rw [h2]; exact Nat.le_refl _), Array.extract_eq_self_of_le (Nat.le_refl _)] at h1
    exact h1
  have hx : x ∈ (ordF T s g n).toList := hp.symm.subset (by simp [iotaF])
  obtain ⟨j, hj, e⟩ := List.getElem_of_mem hx
  have hz := ord_size (n := n) T s g
  have hj' : j < (ordF T s g n).size := by simpa using hj
  refine ⟨j, by omega, ?_⟩
  show (ordF T s g n)[j]! = x
  rw [getElem!_pos (ordF T s g n) j hj']
  simpa using e
/-- There is but one order. -/
theorem ord_one (T s : Int) (g : Nat → Int) (f : Nat → Fin n) (h : Srt (preF T s g) f 0 n) : ∀ k, k < n → f k = fn (ordF T s g n) k := by
  have hc : ∀ k, ∃ j, j < n ∧ fn (ordF T s g n) j = f k := fun k => ord_hit T s g (f k)
  let σ : Nat → Nat := fun k => Classical.choose (hc k)
  have hσ : ∀ k, σ k < n ∧ fn (ordF T s g n) (σ k) = f k := fun k => Classical.choose_spec (hc k)
  have hs := ord_srt (n := n) T s g
  have e := asc_id n σ (fun i j hij hj => by
    have h1 := h i j (Nat.zero_le _) hij hj
    rw [← (hσ i).2, ← (hσ j).2] at h1
    rcases Nat.lt_trichotomy (σ i) (σ j) with c | c | c
    · exact c
    · rw [c] at h1; unfold preF at h1; omega
    · have h2 := hs (σ j) (σ i) (Nat.zero_le _) c (hσ i).1
      unfold preF at h1 h2; omega) (fun i _ => (hσ i).1)
  intro k hk
  rw [← (hσ k).2, e k hk]
end

theorem div_sort {W : World} {B : Nat} {T s : Int} {x : Addr} {n cap : Nat} {g : Nat → Int} [Inhabited (Fin n)] (hn : n ≤ 1024) (hT0 : 0 ≤ T) (hT1 : T ≤ 1000000000) (hs : 1 ≤ s) (hs1 : s ≤ 1000000000000000000) (h0 : ∀ k, k < n → 0 ≤ g k) (h1 : ∀ k, k < n → g k ≤ 1000000000)
    (hC : Caps W B (B + 1) (B + 2) (B + 5) T s x n cap g) (hH : Holds encF W (B + 4) 0 (iotaF n)) (hz : W.heap.size = B + 6) (hx : x.block < B) :
    Calls Tryz.prog 75 #[.slice (some ⟨B + 4, 0, none⟩) n n, .func (.func 76) #[] #[.pointer (some ⟨B + 5, 0, none⟩)]] W fun e w' => e = .returned (.tuple #[]) ∧ Tp.Only (B + 4) W w' ∧ ∀ t, t < n → w'.cell? ⟨B + 4, t, none⟩ = some (.int .i64 (ordAt T s g n t : Int)) := by
  have eg : ∀ args w, (callFunc 76 args).run Tryz.prog w = .ok (.enter 76 args) w := enters_of Tryz.func76 (by kernel_rfl) rfl
  have R : Row1 encF W (B + 4) 0 (iotaF n) := ⟨encF_one, hH, by omega⟩
  have hcmp : CmpLays1 Tryz.prog 76 #[.pointer (some ⟨B + 5, 0, none⟩)] (encF (n := n)) (cfF (n := n) T s g) (B + 4) 0 (iotaF n).size W := by
    intro m os (dk : Array (Fin n)) hdk i j
    have ho : Tp.Only (B + 4) W (sortWorld encF W (B + 4) 0 m dk os) := sw_only (enc := encF (n := n)) (d := dk) ⟨m, os, rfl⟩
    have hC' : Caps (sortWorld encF W (B + 4) 0 m dk os) B (B + 1) (B + 2) (B + 5) T s x n cap g :=
      hC.keep (ho.block _ (by omega) (by omega)) (ho.block _ (by omega) (by omega)) (ho.block _ (by omega) (by omega)) (ho.block _ (by omega) (by omega)) (ho.block _ (by omega) (by omega))
    refine (cmpc_any i.val j.val B (B + 1) (B + 2) (B + 5) T s x n cap g i.isLt j.isLt (by omega) hT0 hT1 hs hs1 h0 h1 _ hC').mono ?_
    rintro e w' ⟨he, q, hq⟩
    exact ⟨he, q, #[], by rw [hq, grow_empty]⟩
  have hc := sort_any encF (cfF T s g) 76 #[.pointer (some ⟨B + 5, 0, none⟩)] (B + 4) 0 n n (iotaF n) W eg (ordP T s g) (by rw [iota_size] at hcmp; exact hcmp) R iota_size (by omega) (fun i j hij hj => iota_le i j hij hj)
  refine hc.mono ?_
  rintro e w' ⟨he, h, hs2, dd, hds, hdf, hSW⟩
  refine ⟨he, sw_only hSW, fun t ht => ?_⟩
  have h2 := hSW.c1 R (by rw [hds, iota_size]) t (by rw [hds]; exact ht)
  rw [Nat.zero_add] at h2
  rw [h2]
  have h3 := ord_one T s g h hs2 t ht
  rw [← hdf] at h3
  have h4 : dd[t]! = (ordF T s g n)[t]! := h3
  rw [h4]
  rfl

theorem part_step {w : World} {b n : Nat} {T s : Int} {g : Nat → Int} [Inhabited (Fin n)] {t : Nat} (h : RowI w b n (partF T s g n t)) :
    RowI (w.setCell ⟨b, ordAt T s g n t, none⟩ (.int .i64 (partF T s g n t (ordAt T s g n t) + 1))) b n (partF T s g n (t + 1)) := by
  refine (h.set (ordAt_lt T s g t) _).congr fun i hi => ?_
  unfold partF
  simp only [timesF]
  by_cases e : i = ordAt T s g n t
  · subst e; rw [if_pos rfl, if_pos rfl]; omega
  · rw [if_neg e, if_neg (fun h => e h.symm)]; omega
theorem part_bd {n : Nat} {T s : Int} {g : Nat → Int} [Inhabited (Fin n)] {t i : Nat} (hT0 : 0 ≤ T) (hs : 1 ≤ s) (h0 : ∀ k, k < n → 0 ≤ g k) (hS : sumTo g n = s) (hi : i < n) : 0 ≤ partF T s g n t i ∧ partF T s g n t i ≤ T + t := by
  unfold partF
  have a := times_bd (ordAt T s g n) i t
  have b := (base_bd hT0 hs (h0 i hi)).1
  have c := part_sum_bd (k := i + 1) hT0 hs h0 hS hi
  have d := part_sum_bd (k := i) hT0 hs h0 hS (by omega)
  simp only [sumTo] at c
  omega

set_option maxRecDepth 100000 in
set_option maxHeartbeats 4000000 in
theorem divide_any (n : Nat) [Inhabited (Fin n)] (T s : Int) (x : Addr) (cap : Nat) (g : Nat → Int) (hn1 : 1 ≤ n) (hn : n ≤ 1024) (hT0 : 0 ≤ T) (hT1 : T ≤ 1000000000) (hs : 1 ≤ s) (hs1 : s ≤ 1000000000000000000) (h0 : ∀ k, k < n → 0 ≤ g k) (h1 : ∀ k, k < n → g k ≤ 1000000000) (hS : sumTo g n = s)
    (w : World) (hx : x.block < w.heap.size) (hrow : WRow w x n g) :
    Calls Tryz.prog 63 #[.int .i64 T, .int .i64 s, .slice (some x) n cap] w fun e w' =>
      e = .returned (.slice (some ⟨w.heap.size + 3, 0, none⟩) n n) ∧ RowI w' (w.heap.size + 3) n (partF T s g n (missK T s g n)) ∧ Below w.heap.size w w' := by
  have hmk := make_run n (by omega)
  have HI := Lib.hid (divI_start w T s x n cap g hx hrow 3 22)
  have HN := Lib.hid hS
  have H0 := Lib.hid h0
  have H1 := Lib.hid h1
  have HX := Lib.hid hx
  clear hS hrow h0 h1 hx
  go_enter Tryz.func63, Tryz.ntmps63
  go_wp2_with fail
  go_loopw [9, 24] (fun mi i wr => ∃ k : Nat, k ≤ n ∧ i = .int .i64 k ∧ mi = .int .i64 (T - sumTo (baseF T s g) k) ∧ DivI w w.heap.size T s x n cap g k wr) (fun _ i _ => n - (RowKit.intOf i).toNat)
  case atStart => exact ⟨0, by omega, rfl, by simp [sumTo], HI.out⟩
  case round =>
    clear HI
    obtain ⟨k, hk, rfl, rfl, hI⟩ := hrel
    by_cases hlt : k < n
    · have hstep := Lib.hid (hI.step hlt HX.out)
      obtain ⟨c1, c2, c3, c4, c5, c6, c7, c8⟩ := hI
      have d4 := c4 k hlt
      have d5 := c5.cell k hlt
      have f5 := c5.free k hlt
      have d6 := c6.cell k hlt
      have f6 := c6.free k hlt
      obtain ⟨p1, p2⟩ := part_sum_bd (k := k) hT0 hs H0.out HN.out hk
      obtain ⟨p3, p4⟩ := part_sum_bd (k := k + 1) hT0 hs H0.out HN.out hlt
      obtain ⟨m0, m1⟩ := mul_small hT0 hT1 (H0.out k hlt) (H1.out k hlt)
      have q0 := (base_bd hT0 hs (H0.out k hlt)).1
      have q2 : T * g k / s ≤ 1000000000 := by have hq : sumTo (baseF T s g) (k + 1) = sumTo (baseF T s g) k + T * g k / s := rfl; omega
      have q3 : 0 ≤ T * g k / s := q0
      have HQ := Lib.hid (show sumTo (baseF T s g) (k + 1) = sumTo (baseF T s g) k + T * g k / s from rfl)
      clear c4 c5 c6 c7
      go_wp2_with fail
      exact ⟨⟨k + 1, hlt, by go_num, by rw [HQ.out]; go_num, hstep.out⟩, by simp [RowKit.intOf]; omega⟩
    · obtain rfl : k = n := by omega
      obtain ⟨e1, e2⟩ := missK_eq (T := T) (g := g) hT0 hs H0.out HN.out
      have HM := Lib.hid e2
      have HD := Lib.hid hI
      obtain ⟨c1, c2, c3, c4, c5, c6, c7, c8⟩ := hI
      clear c4 c5 c6 c7 e2
      go_wp2_with fail
      obtain ⟨hC, hH, hP, hBl, hz⟩ := divI_caps HD.out HX.out
      have HP := Lib.hid hP
      have HB := Lib.hid hBl
      refine (div_sort hn hT0 hT1 hs hs1 H0.out H1.out hC hH hz HX.out).mono ?_
      clear hC hH hP hBl hz
      rintro e w6 ⟨rfl, hO, hD⟩
      have P0 : RowI w6 (w.heap.size + 3) k (partF T s g k 0) := ((HP.out.only hO (by rw [World.size_alloc, c8]; omega) (by omega)).congr fun i hi => by simp [partF, timesF])
      have B0 : Below w.heap.size w w6 := HB.out.trans (hO.below (by omega) HB.out.size)
      clear hO c1 c2 c3
      have HM' := HM.out
      have HD' := Lib.hid hD
      have HP0 := Lib.hid P0
      have HB0 := Lib.hid B0
      clear hD P0 B0 HP HB HD
      go_wp2_with fail
      go_loopw [14, 56] (fun v i wr => ∃ t : Nat, t ≤ missK T s g k ∧ i = .int .i64 t ∧ RowI wr (w.heap.size + 3) k (partF T s g k t) ∧ (∀ t, t < k → wr.cell? ⟨w.heap.size + 4, t, none⟩ = some (.int .i64 (ordAt T s g k t : Int))) ∧ Below w.heap.size w wr) (fun _ i _ => missK T s g k - (RowKit.intOf i).toNat)
      case atStart => exact ⟨0, by omega, rfl, HP0.out, HD'.out, HB0.out⟩
      case round =>
        clear HP0 HD' HB0
        obtain ⟨t, ht, rfl, hP, hD, hB⟩ := hrel
        by_cases hlt2 : t < missK T s g k
        · have y1 := hD t (by omega)
          have y2 := ordAt_lt (n := k) T s g t
          have y3 := hP.cell _ y2
          have y4 := hP.free _ y2
          obtain ⟨y5, y6⟩ := part_bd (t := t) hT0 hs H0.out HN.out y2
          have N1 := Lib.hid (part_step hP)
          have N3 := Lib.hid hD
          have N4 := Lib.hid hB
          clear hP hD hB
          go_wp2_with fail
          refine ⟨⟨t + 1, hlt2, by go_num, N1.out, fun u hu => ?_, N4.out.setCell (by show w.heap.size ≤ w.heap.size + 1 + 1 + 1; omega) _⟩, by simp [RowKit.intOf]; omega⟩
          exact (World.cell?_setCell_other _ _ _ _ (by intro e; simp only [Addr.mk.injEq] at e; omega)).trans (N3.out u hu)
        · obtain rfl : t = missK T s g k := by omega
          have HP := Lib.hid hP
          have HB := Lib.hid hB
          clear hP hD hB
          go_wp2_with fail
          go_ret
          exact ⟨rfl, HP.out, HB.out⟩
end Go.Proofs.YtmgglcfndhfceaaGreatDoor
