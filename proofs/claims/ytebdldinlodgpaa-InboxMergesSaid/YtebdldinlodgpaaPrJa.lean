/-
  Layer 7 (records): rows of bytes, as memory holds them; contracts of number (program) and get (reference): the number of some bytes. Conditions: the row reads as bytes, at most seven.
-/
import Derived.Test.YtebdldinlodgpaaPrTq
import Derived.Test.YtebdldinlodgpaaPrJm
import Derived.Laws.BitsAllLaws
import Derived.Laws.BitsLemmas
import Derived.Laws.Shifts
import Derived.Shelf.SlSortCmp.QuietGrown
namespace Go.Proofs.Ytebdldinlodgpaa.Rc
open Go Go.RowKit Go.Lib Go.Sort Go.Shelf Go.Proofs Go.Proofs.Ytebdldinlodgpaa Go.Proofs.Ytebdldinlodgpaa.Tp
set_option linter.unusedVariables false

/-- It drew and laid blocks, nothing else. -/
def Gr (w w' : World) : Prop := ∃ q os, w' = grow (w.drewN q) os
theorem Gr.refl (w : World) : Gr w w := ⟨0, #[], by rw [grow_empty]; rfl⟩
theorem Gr.drewN {u w : World} (h : Gr u w) (n : Nat) : Gr u (w.drewN n) := by
  obtain ⟨q, os, rfl⟩ := h; exact ⟨q + n, os, by show grow ((u.drewN q).drewN n) os = _; rw [World.drewN_drewN]⟩
theorem Gr.drew {u w : World} (h : Gr u w) : Gr u w.drew := h.drewN 1
theorem Gr.grow {u w : World} (h : Gr u w) (os : Array Obj) : Gr u (Go.Sort.grow w os) := by
  obtain ⟨q, os', rfl⟩ := h; exact ⟨q, os' ++ os, by rw [grow_grow]⟩
theorem Gr.alloc {u w : World} (h : Gr u w) (o : Obj) : Gr u (w.alloc o) := by rw [alloc_eq_grow]; exact h.grow _
theorem Gr.trans {u v w : World} (h : Gr u v) (k : Gr v w) : Gr u w := by
  obtain ⟨q, os, rfl⟩ := k; exact (h.drewN q).grow os
theorem Gr.below {w w' : World} (h : Gr w w') : Below w.heap.size w w' := by
  obtain ⟨q, os, rfl⟩ := h
  refine ⟨rfl, rfl, rfl, ?_, fun k hk => ?_⟩
  · show w.heap.size ≤ (w.heap ++ os).size; simp
  · show (w.heap ++ os)[k]? = w.heap[k]?
    rw [Array.getElem?_append_left hk]
theorem addB (x : Addr) (i : Nat) : (x.add i).block = x.block := by unfold Addr.add; split <;> rfl

/-- The slice's cells hold these bytes. -/
def BRow (w : World) (a : Option Addr) (n : Nat) (bs : List Nat) : Prop :=
  bs.length = n ∧ By bs ∧ (0 < n → ∃ x : Addr, a = some x ∧ ∀ i, i < n → w.cell? (x.add i) = some (.int .u8 (bs[i]! : Nat)))
theorem BRow.below {w w' : World} {B : Nat} {a : Option Addr} {n : Nat} {bs : List Nat} (h : BRow w a n bs) (hb : Below B w w') (hB : ∀ x, a = some x → x.block < B) : BRow w' a n bs := by
  refine ⟨h.1, h.2.1, fun hn => ?_⟩
  obtain ⟨x, ha, hc⟩ := h.2.2 hn
  exact ⟨x, ha, fun i hi => (World.cell?_of_block (hb.block _ (by rw [addB]; exact hB x ha))).trans (hc i hi)⟩
theorem BRow.lt {w : World} {a : Option Addr} {n : Nat} {bs : List Nat} (h : BRow w a n bs) (hn : 0 < n) : ∀ x, a = some x → x.block < w.heap.size := by
  intro x hx
  obtain ⟨y, hy, hc⟩ := h.2.2 hn
  rw [hx] at hy
  injection hy with hy; subst hy
  have := World.block_lt_of_cell? w _ (hc 0 hn)
  rwa [addB] at this
theorem BRow.more {w w' : World} {a : Option Addr} {n : Nat} {bs : List Nat} (h : BRow w a n bs) (hb : Below w.heap.size w w') : BRow w' a n bs := by
  refine ⟨h.1, h.2.1, fun hn => ?_⟩
  obtain ⟨x, ha, hc⟩ := h.2.2 hn
  exact ⟨x, ha, fun i hi => (hb.cell (World.block_lt_of_cell? w _ (hc i hi))).trans (hc i hi)⟩
theorem BRow.byte {w : World} {a : Option Addr} {n : Nat} {bs : List Nat} (h : BRow w a n bs) {i : Nat} (hi : i < n) : bs[i]! < 256 := by
  have := h.1
  rw [getElem!_pos bs i (by omega)]
  exact h.2.1 _ (List.getElem_mem _)

theorem wraps_i64 (n : Int) (h₀ : 0 ≤ n) (h₁ : n < 2 ^ 63) : IntKind.i64.wrap n = n := by rw [IntKind.wrap_i64]; omega
/-- n<<8 | c. -/
theorem or8 (n c : Nat) (hn : n < 281474976710656) (hc : c < 256) : bits .or .i64 ((n : Int) * 256) (c : Int) = ((n * 256 + c : Nat) : Int) := by
  rw [bits_join .i64 63 (by decide) wraps_i64 8 ((n : Int) * 256) (c : Int) (by omega) (by omega) (by omega) (by omega) (by omega) (by omega)]
  simp
theorem be_snoc (l : List Nat) (c : Nat) : be (l ++ [c]) = be l * 256 + c := by simp [be]
theorem be_go (l : List Nat) (h : By l) (s : Nat) : l.foldl (fun n c => n * 256 + c) s < (s + 1) * 256 ^ l.length := by
  induction l generalizing s with
  | nil => simp
  | cons c l ih =>
    rw [List.foldl_cons, List.length_cons, Nat.pow_succ]
    have h1 := ih (fun x hx => h x (by simp [hx])) (s * 256 + c)
    have h2 := h c (by simp)
    refine Nat.lt_of_lt_of_le h1 ?_
    rw [Nat.mul_comm (256 ^ l.length) 256, ← Nat.mul_assoc]
    exact Nat.mul_le_mul_right _ (by omega)
theorem be_lt {l : List Nat} (h : By l) : be l < 256 ^ l.length := by have := be_go l h 0; simpa [be] using this
theorem be_small {l : List Nat} (h : By l) (hl : l.length ≤ 6) : be l < 281474976710656 :=
  Nat.lt_of_lt_of_le (be_lt h) (Nat.le_trans (Nat.pow_le_pow_right (by decide) hl) (by decide))
theorem take_succ' {l : List Nat} {k : Nat} (h : k < l.length) : l.take (k + 1) = l.take k ++ [l[k]!] := by
  rw [List.take_add_one, List.getElem?_eq_getElem h, getElem!_pos l k h]; rfl
theorem take_by {l : List Nat} (h : By l) (k : Nat) : By (l.take k) := fun x hx => h x (List.mem_of_mem_take hx)

set_option maxRecDepth 100000 in
set_option maxHeartbeats 2000000 in
theorem num_any (a : Option Addr) (n cap : Nat) (bs : List Nat) (hn : n ≤ 7) (w : World) (h : BRow w a n bs) :
    Calls Try.prog 75 #[.slice a n cap] w fun e w' => e = .returned (.int .i64 (be bs : Nat)) ∧ w' = w := by
  have H := Lib.hid h
  clear h
  go_enter Try.func75, Try.ntmps75
  go_wp2
  go_loop [3, 8] (fun s z => ∃ k : Nat, k ≤ n ∧ z = .int .i64 k ∧ s = .int .i64 (be (bs.take k) : Nat)) (fun _ z => n - (intOf z).toNat)
  case atStart => exact ⟨0, by omega, rfl, rfl⟩
  case round =>
    obtain ⟨k, hk, rfl, rfl⟩ := hrel
    by_cases hlt : k < n
    · obtain ⟨x, hx0, hx⟩ := H.out.2.2 (by omega)
      subst hx0
      have c0 := hx k hlt
      have b0 := H.out.byte hlt
      have hs := be_small (take_by H.out.2.1 k) (by rw [List.length_take]; omega)
      have HE := Lib.hid (show be (bs.take k) * 256 + bs[k]! = be (bs.take (k + 1)) by rw [take_succ' (by have := H.out.1; omega), be_snoc])
      generalize be (bs.take k) = s at *
      generalize bs[k]! = c at *
      have ho := or8 s c hs b0
      have i1 : (k : Int) < (n : Int) := by omega
      clear hx
      go_wp2
      go_round
      case rel => exact ⟨k + 1, by omega, by go_num, by rw [← HE.out]; simp⟩
      case measure => simp [intOf]; omega
    · obtain rfl : k = n := by omega
      have e : bs.take k = bs := List.take_of_length_le (by have := H.out.1; omega)
      rw [e]
      go_wp2
      go_ret
      exact ⟨rfl, rfl⟩

set_option maxRecDepth 100000 in
set_option maxHeartbeats 2000000 in
theorem get_any (a : Option Addr) (n cap : Nat) (bs : List Nat) (hn : n ≤ 7) (w : World) (h : BRow w a n bs) :
    Calls Try.prog 93 #[.slice a n cap] w fun e w' => e = .returned (.int .i64 (be bs : Nat)) ∧ w' = w := by
  have H := Lib.hid h
  clear h
  go_enter Try.func93, Try.ntmps93
  go_wp2
  go_loop [3, 4] (fun s z => ∃ k : Nat, k ≤ n ∧ z = .int .i64 k ∧ s = .int .i64 (be (bs.take k) : Nat)) (fun _ z => n - (intOf z).toNat)
  case atStart => exact ⟨0, by omega, rfl, rfl⟩
  case round =>
    obtain ⟨k, hk, rfl, rfl⟩ := hrel
    by_cases hlt : k < n
    · obtain ⟨x, hx0, hx⟩ := H.out.2.2 (by omega)
      subst hx0
      have c0 := hx k hlt
      have b0 := H.out.byte hlt
      have hs := be_small (take_by H.out.2.1 k) (by rw [List.length_take]; omega)
      have HE := Lib.hid (show be (bs.take k) * 256 + bs[k]! = be (bs.take (k + 1)) by rw [take_succ' (by have := H.out.1; omega), be_snoc])
      generalize be (bs.take k) = s at *
      generalize bs[k]! = c at *
      have ho := or8 s c hs b0
      have i1 : (k : Int) < (n : Int) := by omega
      clear hx
      go_wp2
      go_round
      case rel => exact ⟨k + 1, by omega, by go_num, by rw [← HE.out]; simp⟩
      case measure => simp [intOf]; omega
    · obtain rfl : k = n := by omega
      have e : bs.take k = bs := List.take_of_length_le (by have := H.out.1; omega)
      rw [e]
      go_wp2
      go_ret
      exact ⟨rfl, rfl⟩
end Go.Proofs.Ytebdldinlodgpaa.Rc
