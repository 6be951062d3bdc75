/-
  The generator of inputs: contracts of New, Next and Pick on a tape: whatever the tape holds, the choices are in range; only the tape's own block changes, beside new blocks. Condition: the tape's block reads as a tape.
-/
import Derived.Test.YtebdldinlodgpaaPrLeaf
import Derived.Deep.RegionHeld3
namespace Go.Proofs.Ytebdldinlodgpaa.Tp
open Go Go.RowKit Go.Lib Go.Proofs.Ytebdldinlodgpaa

theorem quiet_add_left {P : Program} {f : FuncId} {args : Array Value} {w : World} {a n : Nat} {v : Value}
    (h : Calls P f args (w.drewN (a + n)) fun e w' => e = .returned v ∧ w.drewN (a + n) = w') :
    Calls P f args (w.drewN (a + n)) fun e w'' => e = .returned v ∧ ∃ m, w'' = w.drewN (a + m) :=
  h.mono fun _ _ ⟨he, hm⟩ => ⟨he, n, hm.symm⟩

/-- Only block b may have changed, and there are new blocks. -/
structure Only (b : Nat) (w w' : World) : Prop where
  os : w'.os = w.os
  tape : w'.tape = w.tape
  output : w'.output = w.output
  size : w.heap.size ≤ w'.heap.size
  block : ∀ k, k < w.heap.size → k ≠ b → w'.heap[k]? = w.heap[k]?

theorem Only.refl (b : Nat) (w : World) : Only b w w := ⟨rfl, rfl, rfl, Nat.le_refl _, fun _ _ _ => rfl⟩
theorem Only.trans {b : Nat} {u v w : World} (h : Only b u v) (k : Only b v w) : Only b u w :=
  ⟨k.os.trans h.os, k.tape.trans h.tape, k.output.trans h.output, Nat.le_trans h.size k.size, fun i hi hn => (k.block i (Nat.lt_of_lt_of_le hi h.size) hn).trans (h.block i hi hn)⟩
theorem Only.of_below {b : Nat} {u v : World} (h : Below u.heap.size u v) : Only b u v := ⟨h.os, h.tape, h.output, h.size, fun k hk _ => h.block k hk⟩
theorem Only.alloc {b : Nat} {u w : World} (h : Only b u w) (o : Obj) : Only b u (w.alloc o) := h.trans (Only.of_below (Below.alloc (Below.refl _ _) (Nat.le_refl _) o))
theorem Only.drewN {b : Nat} {u w : World} (h : Only b u w) (n : Nat) : Only b u (w.drewN n) := ⟨h.os, h.tape, h.output, h.size, h.block⟩
theorem Only.drew {b : Nat} {u w : World} (h : Only b u w) : Only b u w.drew := ⟨h.os, h.tape, h.output, h.size, h.block⟩
theorem Only.setCell {b : Nat} {u w : World} (h : Only b u w) {p : Addr} (hp : p.block = b ∨ u.heap.size ≤ p.block) (v : Value) : Only b u (w.setCell p v) :=
  ⟨h.os, h.tape, h.output, by simpa [World.setCell] using h.size, fun i hi hn => (Below.heap_setCell w p v i (by omega)).trans (h.block i hi hn)⟩
theorem Only.cell {b : Nat} {u w : World} (h : Only b u w) {p : Addr} {v : Value} (hv : u.cell? p = some v) (hn : p.block ≠ b) : w.cell? p = some v :=
  (World.cell?_of_block (h.block p.block (World.block_lt_of_cell? u p hv) hn)).trans hv
theorem Only.frozen {b : Nat} {u w : World} (h : Only b u w) {p : Addr} (hv : u.frozen? p = false) (hp : p.block < u.heap.size) (hn : p.block ≠ b) : w.frozen? p = false :=
  (World.frozen?_of_block (h.block p.block hp hn)).trans hv
/-- A block of the call's own: nothing that was there before the call has changed. -/
theorem Only.below {b B : Nat} {u w : World} (h : Only b u w) (hB : B ≤ b) (hu : B ≤ u.heap.size) : Below B u w :=
  ⟨h.os, h.tape, h.output, h.size, fun k hk => h.block k (by omega) (by omega)⟩

/-- The choices that are still to come: nothing, or a row of ints outside the tape's own block. -/
def RowAt (w : World) (b : Nat) (a : Option Addr) (len : Nat) (zs : List Int) : Prop :=
  len = 0 ∨ ∃ x : Addr, a = some x ∧ x.block < b ∧ ∀ i, i < len → w.cell? (x.add i) = some (.int .i64 (zs.getD i 0)) ∧ -9223372036854775808 ≤ zs.getD i 0 ∧ zs.getD i 0 ≤ 9223372036854775807
/-- Block b reads as a tape. -/
def TapeAt (b : Nat) (w : World) : Prop :=
  ∃ (a : Option Addr) (len cap : Nat) (zs : List Int) (k : Nat), w.cell? ⟨b, 0, none⟩ = some (.slice a len cap) ∧ w.cell? ⟨b, 1, none⟩ = some (.int .i64 k) ∧ w.frozen? ⟨b, 1, none⟩ = false ∧ k ≤ len ∧ len ≤ 9223372036854775807 ∧ RowAt w b a len zs
theorem add_block (x : Addr) (i : Nat) : (x.add i).block = x.block := by unfold Addr.add; split <;> rfl
theorem RowAt.below {w w' : World} {b : Nat} {a : Option Addr} {len : Nat} {zs : List Int} (h : RowAt w b a len zs) (hb : Below w.heap.size w w') : RowAt w' b a len zs := by
  rcases h with h | ⟨x, ha, hx, hc⟩
  · exact .inl h
  · exact .inr ⟨x, ha, hx, fun i hi => ⟨(hb.cell (World.block_lt_of_cell? w _ (hc i hi).1)).trans (hc i hi).1, (hc i hi).2⟩⟩
theorem RowAt.only {w w' : World} {b : Nat} {a : Option Addr} {len : Nat} {zs : List Int} (h : RowAt w b a len zs) (hb : Only b w w') : RowAt w' b a len zs := by
  rcases h with h | ⟨x, ha, hx, hc⟩
  · exact .inl h
  · exact .inr ⟨x, ha, hx, fun i hi => ⟨hb.cell (hc i hi).1 (by rw [add_block]; exact Nat.ne_of_lt hx), (hc i hi).2⟩⟩
theorem TapeAt.below {b : Nat} {w w' : World} (h : TapeAt b w) (hb : Below w.heap.size w w') : TapeAt b w' := by
  obtain ⟨a, len, cap, zs, k, h1, h2, h3, h4, h5, h6⟩ := h
  exact ⟨a, len, cap, zs, k, (hb.cell (World.block_lt_of_cell? w _ h1)).trans h1, (hb.cell (World.block_lt_of_cell? w _ h2)).trans h2, (hb.frozen (World.block_lt_of_cell? w _ h2)).trans h3, h4, h5, h6.below hb⟩
theorem TapeAt.far {b : Nat} {w : World} {p : Addr} (h : TapeAt b w) (hp : b < p.block) (v : Value) : TapeAt b (w.setCell p v) := by
  obtain ⟨a, len, cap, zs, k, h1, h2, h3, h4, h5, h6⟩ := h
  have hf : ∀ q : Addr, q.block ≤ b → (w.setCell p v).heap[q.block]? = w.heap[q.block]? := fun q hq => Below.heap_setCell w p v q.block (by omega)
  refine ⟨a, len, cap, zs, k, (World.cell?_of_block (hf _ (Nat.le_refl _))).trans h1, (World.cell?_of_block (hf _ (Nat.le_refl _))).trans h2, (World.frozen?_of_block (hf _ (Nat.le_refl _))).trans h3, h4, h5, ?_⟩
  rcases h6 with h6 | ⟨x, ha, hx, hc⟩
  · exact .inl h6
  · exact .inr ⟨x, ha, hx, fun i hi => ⟨(World.cell?_of_block (hf (x.add i) (by rw [add_block]; exact Nat.le_of_lt hx))).trans (hc i hi).1, (hc i hi).2⟩⟩
theorem TapeAt.lt {b : Nat} {w : World} (h : TapeAt b w) : b < w.heap.size := by
  obtain ⟨a, len, cap, zs, k, h1, _⟩ := h
  exact World.block_lt_of_cell? w _ h1

def NextR (b : Nat) (n : Int) (w : World) (e : Ending) (w' : World) : Prop := ∃ v : Int, e = .returned (.int .i64 v) ∧ 0 ≤ v ∧ v < n ∧ TapeAt b w' ∧ Only b w w'

set_option maxRecDepth 100000 in
set_option maxHeartbeats 2000000 in
theorem next_any (b : Nat) (n : Int) (hn : 1 ≤ n) (hn1 : n ≤ 9223372036854775807) (w : World) (h : TapeAt b w) :
    Calls Try.prog 27 #[.pointer (some ⟨b, 0, none⟩), .int .i64 n] w (NextR b n w) := by
  have hT := h
  obtain ⟨a, len, cap, zs, k, h1, h2, h3, h4, h5, h6⟩ := h
  rcases Nat.lt_or_ge k len with hk | hk
  · rcases h6 with h6 | ⟨x, ha, hx, hc⟩
    · omega
    · subst ha
      obtain ⟨c1, c2, c3⟩ := hc k hk
      have g1 : decide ((k : Int) < (len : Int)) = true := by simp; omega
      have HC := Lib.hid hc
      have HX := Lib.hid hx
      have hne : ¬ (x.add k).block = b := by rw [add_block]; exact Nat.ne_of_lt hx
      have c4 : ∀ (m : Nat) (u : Value), ((w.drewN m).setCell ⟨b, 1, none⟩ u).cell? (x.add k) = some (.int .i64 (zs.getD k 0)) := fun m u => (World.cell?_setCell_far (w.drewN m) ⟨b, 1, none⟩ (x.add k) u (fun e => hne e.symm)).trans c1
      have g3 : (0 : Int) ≤ (k : Int) := by omega
      have g4 : (k : Int) < (len : Int) := by omega
      have g5 : IntKind.i64.wrap (k : Int) = (k : Int) := IntWalk.i64_in _ (by omega)
      clear hc hx
      go_enter Try.func27, Try.ntmps27
      go_wp2
      go_quiet (fail)
      go_wp2
      go_quiet ((go_at_call 31; first | exact quiet_left (mod_any _ _ c2 c3 hn hn1 _) | exact quiet_add_left (mod_any _ _ c2 c3 hn hn1 _)))
      go_wp2
      go_ret
      rename_i n1 _
      have hO : Only b w (((w.drewN n1).setCell ⟨b, 1, none⟩ (.int .i64 (k + 1))).drewN nq) :=
        Only.drewN (Only.setCell (b := b) (p := ⟨b, 1, none⟩) (Only.drewN (Only.refl b w) _) (.inl rfl) _) _
      refine ⟨modT (zs.getD k 0) n, rfl, modT_lo _ _ hn, modT_hi _ _ hn, ⟨some x, len, cap, zs, k + 1, ?_, ?_, ?_, by omega, h5, RowAt.only (.inr ⟨x, rfl, HX.out, HC.out⟩) hO⟩, hO⟩
      · go_simp
      · go_simp
      · go_simp
  · have g1 : decide (len ≤ k) = true := by simp; omega
    have H6 := Lib.hid h6
    have HT := Lib.hid hT
    clear h6 hT
    go_enter Try.func27, Try.ntmps27
    go_wp2
    go_quiet (fail)
    go_wp2
    go_ret
    exact ⟨0, rfl, by omega, by omega, HT.out.below (below_drewN (Below.refl _ _) _), Only.drewN (Only.refl _ _) _⟩

def PickR (b : Nat) (vs : List Int) (w : World) (e : Ending) (w' : World) : Prop := ∃ v : Int, e = .returned (.int .i64 v) ∧ v ∈ vs ∧ TapeAt b w' ∧ Only b w w'

set_option maxRecDepth 100000 in
set_option maxHeartbeats 2000000 in
theorem pick_any (b s : Nat) (vs : List Int) (hv : 1 ≤ vs.length) (hv1 : vs.length ≤ 100) (hs : s ≠ b) (w : World) (h : TapeAt b w) (hc : ∀ i, i < vs.length → w.cell? ⟨s, i, none⟩ = some (.int .i64 (vs.getD i 0))) :
    Calls Try.prog 46 #[.pointer (some ⟨b, 0, none⟩), .slice (some ⟨s, 0, none⟩) vs.length vs.length] w (PickR b vs w) := by
  have HC := Lib.hid hc
  clear hc
  go_enter Try.func46, Try.ntmps46
  go_wp2_with fail
  refine (next_any b vs.length (by omega) (by omega) _ h).mono ?_
  rintro e w1 ⟨v, rfl, h0, h1, hT, hO⟩
  obtain ⟨i, rfl⟩ := Int.eq_ofNat_of_zero_le h0
  have hi : i < vs.length := by omega
  have y : w1.cell? ⟨s, i, none⟩ = some (.int .i64 (vs.getD i 0)) := hO.cell (HC.out i hi) hs
  have hO' := hO
  have hT' := hT
  go_wp2_with fail
  go_ret
  exact ⟨vs[i], rfl, List.getElem_mem hi, hT', hO'⟩
theorem TapeAt.alloc {b : Nat} {w : World} (h : TapeAt b w) (o : Obj) : TapeAt b (w.alloc o) := h.below (Below.alloc (Below.refl _ _) (Nat.le_refl _) o)

/-- A slice of ints that came in, as a walk is told of it. -/
def IsRow (w : World) (a : Option Addr) (len cap : Nat) (zs : List Int) : Prop :=
  (a = none ∧ len = 0 ∧ cap = 0 ∧ zs = []) ∨
  ∃ x, a = some x ∧ len ≤ cap ∧ cap ≤ maxLen ∧ zs.length = cap ∧ (∀ i, i < zs.length → w.cell? (x.add i) = some (.int .i64 (zs.getD i 0))) ∧ ∀ n ∈ zs, (Lit.int .i64 n).wf = true
theorem lit_bd {n : Int} (h : (Lit.int .i64 n).wf = true) : -9223372036854775808 ≤ n ∧ n ≤ 9223372036854775807 := by
  simp [Lit.wf, IntKind.min, IntKind.max, IntKind.signed, IntKind.bits] at h; omega
theorem tape_new {w : World} {a : Option Addr} {len cap : Nat} {zs : List Int} (h : IsRow w a len cap zs) (hl : len ≤ 9223372036854775807) (t : TypeId) :
    TapeAt w.heap.size (w.alloc (.cells #[.slice a len cap, .int .i64 0] t)) := by
  refine ⟨a, len, cap, zs, 0, by go_simp, by go_simp, by go_simp, Nat.zero_le _, hl, ?_⟩
  rcases h with ⟨rfl, rfl, _, _⟩ | ⟨x, rfl, h1, h2, h3, h4, h5⟩
  · exact .inl rfl
  · rcases Nat.eq_zero_or_pos len with h0 | h0
    · exact .inl h0
    · refine .inr ⟨x, rfl, ?_, fun i hi => ⟨?_, ?_⟩⟩
      · have := World.block_lt_of_cell? w _ (h4 0 (by omega))
        rwa [add_block] at this
      · exact ((Below.alloc (Below.refl w.heap.size w) (Nat.le_refl _) _).cell (World.block_lt_of_cell? w _ (h4 i (by omega)))).trans (h4 i (by omega))
      · exact lit_bd (h5 _ (by
          have hi2 : i < zs.length := by omega
          have e : zs.getD i 0 = zs[i] := by simp [List.getD, hi2]
          rw [e]; exact List.getElem_mem hi2))

set_option maxHeartbeats 1000000 in
theorem gnew_any (a : Option Addr) (len cap : Nat) (w : World) :
    Calls Try.prog 14 #[.slice a len cap] w fun e w' => e = .returned (.pointer (some ⟨w.heap.size, 0, none⟩)) ∧ w' = w.alloc (.cells #[.slice a len cap, .int .i64 0] 73) := by
  go_enter Try.func14, Try.ntmps14
  go_wp2
  go_ret
  exact ⟨rfl, rfl⟩

theorem six (w : World) (x0 x1 x2 x3 x4 x5 : Int) (t : TypeId) : ∀ i, i < ([x0, x1, x2, x3, x4, x5] : List Int).length → (w.alloc (.cells #[.int .i64 x0, .int .i64 x1, .int .i64 x2, .int .i64 x3, .int .i64 x4, .int .i64 x5] t)).cell? ⟨w.heap.size, i, none⟩ = some (.int .i64 (([x0, x1, x2, x3, x4, x5] : List Int).getD i 0)) := by
  intro i hi
  rcases i with _ | _ | _ | _ | _ | _ | i
  · go_simp
  · go_simp
  · go_simp
  · go_simp
  · go_simp
  · go_simp
  · simp at hi; omega
theorem three (w : World) (x y z : Int) (t : TypeId) : ∀ i, i < ([x, y, z] : List Int).length → (w.alloc (.cells #[.int .i64 x, .int .i64 y, .int .i64 z] t)).cell? ⟨w.heap.size, i, none⟩ = some (.int .i64 (([x, y, z] : List Int).getD i 0)) := by
  intro i hi
  rcases i with _ | _ | _ | i
  · go_simp
  · go_simp
  · go_simp
  · simp at hi; omega
/-- A choice between two bounds. -/
def NearR (b : Nat) (lo hi : Int) (w : World) (e : Ending) (w' : World) : Prop := ∃ v : Int, e = .returned (.int .i64 v) ∧ lo ≤ v ∧ v ≤ hi ∧ TapeAt b w' ∧ Only b w w'
end Go.Proofs.Ytebdldinlodgpaa.Tp
