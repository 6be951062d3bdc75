/-
  Layer 7 (records): a list of the call's own, while it grows; contracts of appendNumber (program) and put (reference): the bytes of a number behind a list of the call's own. Conditions: the list is the caller's own; the number is not negative.
-/
import Derived.Test.YtebdldinlodgpaaPrJa
import Derived.Maps.AppendAt
namespace Go.Proofs.Ytebdldinlodgpaa.Rc
open Go Go.RowKit Go.Lib Go.Sort Go.Shelf Go.Proofs Go.Proofs.Ytebdldinlodgpaa Go.Proofs.Ytebdldinlodgpaa.Tp
set_option linter.unusedVariables false

/-- A list of the call's own, or nothing, while it grows: v is the slice, l what it holds. -/
structure OwnL {α : Type} (t : TypeId) (sz : Nat) (enc : α → List Value) (w0 : World) (v : Value) (l : List α) (W : World) : Prop where
  row : W.ownsRow w0.heap.size t sz v l.length (l.flatMap enc)
  below : Below w0.heap.size w0 W
section
variable {α : Type} {t : TypeId} {sz : Nat} {enc : α → List Value} {w0 W W' : World} {v v' : Value} {l m : List α}
theorem OwnL.grown (h : OwnL t sz enc w0 v l W) (ho : W'.ownsRow w0.heap.size t sz v' (l.length + m.length) (l.flatMap enc ++ m.flatMap enc)) (hg : W.grownBy W' v.ownBlock) : OwnL t sz enc w0 v' (l ++ m) W' :=
  ⟨by rw [List.length_append, List.flatMap_append]; exact ho, h.below.grown hg h.below.size fun g hg' => (h.row.lt g hg').1⟩
theorem OwnL.more (h : OwnL t sz enc w0 v l W) (hb : Below W.heap.size W W') : OwnL t sz enc w0 v l W' := by
  refine ⟨⟨h.row.1, ?_⟩, h.below.trans (hb.mono h.below.size)⟩
  rcases h.row.2 with h0 | ⟨g, cap, cur, e, h1, h2, h3⟩
  · exact .inl h0
  · exact .inr ⟨g, cap, cur, e, h1, (hb.block g (Array.getElem?_eq_some_iff.1 h2).1).trans h2, h3⟩
/-- Something was done in other blocks than the list's. -/
theorem OwnL.other (h : OwnL t sz enc w0 v l W) (hb : Below w0.heap.size w0 W') (hk : ∀ g, v.ownBlock = some g → W'.heap[g]? = W.heap[g]?) : OwnL t sz enc w0 v l W' := by
  refine ⟨⟨h.row.1, ?_⟩, hb⟩
  rcases h.row.2 with h0 | ⟨g, cap, cur, e, h1, h2, h3⟩
  · exact .inl h0
  · subst e
    exact .inr ⟨g, cap, cur, rfl, h1, (hk g rfl).trans h2, h3⟩
theorem OwnL.nil (w : World) (t : TypeId) (sz : Nat) (enc : α → List Value) : OwnL t sz enc w (.slice none 0 0) [] w := ⟨World.ownsRow_nil _ _ _ _, Below.refl _ _⟩
theorem OwnL.alloc (h : OwnL t sz enc w0 v l W) (o : Obj) : OwnL t sz enc w0 v l (W.alloc o) := h.more ((Below.refl _ _).alloc (Nat.le_refl _) o)
theorem OwnL.drew (h : OwnL t sz enc w0 v l W) : OwnL t sz enc w0 v l W.drew := h.more ((Below.refl _ _).drew)
/-- A lower base: the call's caller's own. -/
theorem OwnL.base {u0 : World} (h : OwnL t sz enc w0 v l W) (hb : Below u0.heap.size u0 w0) : OwnL t sz enc u0 v l W := by
  refine ⟨⟨h.row.1, ?_⟩, hb.trans (h.below.mono hb.size)⟩
  rcases h.row.2 with h0 | ⟨g, cap, cur, e, h1, h2, h3⟩
  · exact .inl h0
  · exact .inr ⟨g, cap, cur, e, Nat.le_trans hb.size h1, h2, h3⟩
/-- The slice itself. -/
theorem OwnL.form (h : OwnL t sz enc w0 v l W) : (v = .slice none 0 0 ∧ l = []) ∨ ∃ g cap, v = .slice (some ⟨g, 0, none⟩) l.length cap ∧ w0.heap.size ≤ g ∧ g < W.heap.size ∧ l.length ≤ cap ∧ cap ≤ maxLen := by
  rcases h.row.2 with ⟨e, h0⟩ | ⟨g, cap, cur, e, h1, h2, h3, h4, _⟩
  · exact .inl ⟨e, List.length_eq_zero_iff.1 h0⟩
  · exact .inr ⟨g, cap, e, h1, (Array.getElem?_eq_some_iff.1 h2).1, h3, h4⟩
end

/-- Whatever does not lie in the list's block is as it was. -/
structure Kp (v v' : Value) (w w' : World) : Prop where
  size : w.heap.size ≤ w'.heap.size
  block : ∀ k, k < w.heap.size → v.ownBlock ≠ some k → w'.heap[k]? = w.heap[k]?
  own : ∀ g, v'.ownBlock = some g → v.ownBlock = some g ∨ w.heap.size ≤ g
theorem Kp.refl (v : Value) (w : World) : Kp v v w w := ⟨Nat.le_refl _, fun _ _ _ => rfl, fun g h => .inl h⟩
theorem Kp.trans {v v1 v2 : Value} {w w1 w2 : World} (h : Kp v v1 w w1) (k : Kp v1 v2 w1 w2) : Kp v v2 w w2 :=
  ⟨Nat.le_trans h.size k.size, fun i hi hn => (k.block i (Nat.lt_of_lt_of_le hi h.size) (fun e => by rcases h.own i e with h1 | h1; exact hn h1; omega)).trans (h.block i hi hn),
   fun g hg => by rcases k.own g hg with h1 | h1; exact h.own g h1; exact .inr (Nat.le_trans h.size h1)⟩
theorem Kp.more {v v1 : Value} {w w1 w2 : World} (h : Kp v v1 w w1) (hb : Below w1.heap.size w1 w2) : Kp v v1 w w2 :=
  h.trans ⟨hb.size, fun k hk _ => hb.block k hk, fun g hg => .inl hg⟩
theorem Kp.alloc {v v1 : Value} {w w1 : World} (h : Kp v v1 w w1) (o : Obj) : Kp v v1 w (w1.alloc o) := h.more ((Below.refl _ _).alloc (Nat.le_refl _) o)
theorem Kp.drew {v v1 : Value} {w w1 : World} (h : Kp v v1 w w1) : Kp v v1 w w1.drew := h.more ((Below.refl _ _).drew)
theorem Kp.grown {v v' : Value} {w w' : World} (hg : w.grownBy w' v.ownBlock) {H : Nat} (ho : v'.ownBlock = v.ownBlock ∨ v'.ownBlock = some H) (hH : w.heap.size ≤ H) : Kp v v' w w' :=
  ⟨hg.size, fun k hk hn => hg.block k hk (fun e => hn e.symm), fun g hg' => by
    rcases ho with h | h
    · exact .inl (h ▸ hg')
    · rw [h] at hg'; injection hg' with hg'; exact .inr (by omega)⟩
theorem Kp.cell {v v' : Value} {w w' : World} (h : Kp v v' w w') {p : Addr} {x : Value} (hx : w.cell? p = some x) (hn : v.ownBlock ≠ some p.block) : w'.cell? p = some x :=
  (World.cell?_of_block (h.block p.block (World.block_lt_of_cell? w p hx) hn)).trans hx
theorem Kp.frozen {v v' : Value} {w w' : World} (h : Kp v v' w w') {p : Addr} (hp : p.block < w.heap.size) (hx : w.frozen? p = false) (hn : v.ownBlock ≠ some p.block) : w'.frozen? p = false :=
  (World.frozen?_of_block (h.block p.block hp hn)).trans hx

/-- A byte's cell. -/
def eB (c : Nat) : List Value := [.int .u8 (c : Int)]
theorem fB_len (l : List Nat) : (l.flatMap eB).length = l.length := by induction l with | nil => rfl | cons c l ih => simp [eB, ih]
theorem fB_get (l : List Nat) (i : Nat) (h : i < l.length) : (l.flatMap eB)[i]? = some (.int .u8 (l[i]! : Int)) := by
  induction l generalizing i with
  | nil => simp at h
  | cons c l ih =>
    cases i with
    | zero => rfl
    | succ i => simpa [eB] using ih i (by simpa using h)
def OwnB (w0 : World) (v : Value) (l : List Nat) (W : World) : Prop := OwnL 5 1 eB w0 v l W
theorem OwnB.brow {w0 W : World} {a : Option Addr} {n cap : Nat} {l : List Nat} (h : OwnB w0 (.slice a n cap) l W) (hl : By l) : BRow W a n l ∧ n = l.length := by
  rcases OwnL.form h with ⟨e, rfl⟩ | ⟨g, cap', e, h1, h2, h3⟩
  · injection e with e1 e2 e3; subst e1; subst e2
    exact ⟨⟨rfl, hl, fun h => absurd h (by decide)⟩, rfl⟩
  · injection e with e1 e2 e3; subst e1; subst e2
    refine ⟨⟨rfl, hl, fun hn => ⟨_, rfl, fun i hi => h.row.cells (g := g) rfl i _ (fB_get l i hi)⟩⟩, rfl⟩
theorem infoB : (Try.prog.info? 5).map (fun i => (i.zero, i.size, i.bytes)) = some (some (.int .u8 0), 1, 1) := by kernel_rfl
theorem info1 : ∃ i0 : TypeInfo, Try.prog.info? 5 = some i0 ∧ i0.zero = some (.int .u8 0) ∧ i0.size = 1 ∧ i0.bytes = 1 := by
  have h := infoB
  cases hi : Try.prog.info? 5 with
  | none => rw [hi] at h; cases h
  | some i => rw [hi] at h; simp at h; exact ⟨i, rfl, h.1, h.2.1, h.2.2⟩

/-- What a call that appends bytes gives. -/
def ApR (w0 : World) (v : Value) (l : List Nat) (w : World) (e : Ending) (w' : World) : Prop := ∃ v', e = .returned v' ∧ OwnB w0 v' l w' ∧ Kp v v' w w'
/-- byte(n >> (8*i)). -/
theorem shr_byte (n i : Nat) : (n : Int) / 2 ^ (8 * i) % 256 = ((n / 256 ^ i % 256 : Nat) : Int) := by
  rw [show (256 : Nat) ^ i = 2 ^ (8 * i) by rw [Nat.pow_mul]]
  simp
theorem one_new (w : World) (x : Value) (t : TypeId) : ∀ j u, [x][j]? = some u → (w.alloc (.cells #[x] t)).cell? ((⟨w.heap.size, 0, none⟩ : Addr).add j) = some u := by
  intro j u hj
  rcases j with _ | j
  · simp at hj; subst hj; go_simp
  · simp at hj

set_option maxRecDepth 100000 in
set_option maxHeartbeats 2000000 in
theorem apn_any (w0 : World) (v : Value) (bs : List Nat) (n count : Nat) (hc : count ≤ 8) (hl : bs.length ≤ 1000000) (w : World) (h : OwnB w0 v bs w) :
    Calls Try.prog 48 #[v, .int .i64 n, .int .i64 count] w (ApR w0 v (bs ++ bys n count) w) := by
  obtain ⟨i0, hi0, hz0, hz1, hz2⟩ := info1
  have HQ := Lib.hid (And.intro hi0 (And.intro hz0 (And.intro hz1 hz2)))
  clear hi0 hz0 hz1 hz2
  have H := Lib.hid h
  clear h
  go_enter Try.func48, Try.ntmps48
  go_wp2_with fail
  go_loopw [0, 7] (fun x z wr => ∃ (k : Nat) (cur : List Nat), z = .int .i64 ((k : Int) - 1) ∧ k ≤ count ∧ Hid (OwnB w0 x cur wr) ∧ Hid (Kp v x w wr) ∧ Hid (cur ++ bys n k = bs ++ bys n count)) (fun _ z _ => (intOf z + 1).toNat)
  case atStart => exact ⟨count, bs, by go_num, by omega, H, Lib.hid (Kp.refl _ _), Lib.hid rfl⟩
  case round =>
    obtain ⟨k, cur, rfl, hk, HO, HK, HE⟩ := hrel
    have hlen : cur.length ≤ 1000008 := by have := congrArg List.length HE.out; simp [bys_len] at this; omega
    rcases k with _ | i
    · have e : cur = bs ++ bys n count := by simpa [bys] using HE.out
      have t0 : decide ((0 : Int) ≤ (((0 : Nat) : Int) - 1)) = false := decide_eq_false (by omega)
      go_wp2_with fail
      go_ret
      exact ⟨_, rfl, e ▸ HO.out, HK.out⟩
    · have t0 : decide ((0 : Int) ≤ (i : Int)) = true := decide_eq_true (by omega)
      have e1 : (((i + 1 : Nat) : Int) - 1) = (i : Int) := by omega
      rw [e1]
      have hs := shr_byte n i
      have HE2 := Lib.hid (show (cur ++ [n / 256 ^ i % 256]) ++ bys n i = bs ++ bys n count by rw [← HE.out]; simp [bys])
      generalize n / 256 ^ i % 256 = c at *
      have HO2 := Lib.hid (OwnL.alloc HO.out (.cells #[.int .u8 (c : Int)] 5))
      have HK2 := Lib.hid (HK.out.alloc (.cells #[.int .u8 (c : Int)] 5))
      clear HE HO HK
      go_wp2_with (at_builtin; refine wpList_append_own_at _ rfl _ _ 27 rfl w0.heap.size 5 i0 (.int .u8 0) 1 1 Try.underlying27 HQ.out.1 HQ.out.2.1 HQ.out.2.2.1 HQ.out.2.2.2 rfl (by decide) _ _ _ rfl HO2.out.row ⟨wr.heap.size, 0, none⟩ 1 1 [.int .u8 (c : Int)] rfl rfl (one_new _ _ _) ?m2 ?m3 ?m4 HO2.out.below.size ?_)
      case m2 => intro x hx; simp at hx; subst hx; rfl
      case m3 => unfold maxLen; omega
      case m4 => omega
      intro v2 w2 hown hgrow _ hat
      have HK3 := Lib.hid (HK2.out.trans (Kp.grown hgrow hat (by simp)))
      have HO3 := Lib.hid (OwnL.grown (m := [c]) HO2.out hown hgrow)
      clear hown hgrow hat HO2 HK2
      go_wp2_with fail
      go_roundw
      case rel => exact ⟨i, cur ++ [c], by go_num, by omega, HO3, HK3, HE2⟩
      case measure => simp [intOf]

set_option maxRecDepth 100000 in
set_option maxHeartbeats 2000000 in
theorem put_any (w0 : World) (v : Value) (bs : List Nat) (n count : Nat) (hc : count ≤ 8) (hl : bs.length ≤ 1000000) (w : World) (h : OwnB w0 v bs w) :
    Calls Try.prog 72 #[v, .int .i64 n, .int .i64 count] w (ApR w0 v (bs ++ bys n count) w) := by
  obtain ⟨i0, hi0, hz0, hz1, hz2⟩ := info1
  have HQ := Lib.hid (And.intro hi0 (And.intro hz0 (And.intro hz1 hz2)))
  clear hi0 hz0 hz1 hz2
  have H := Lib.hid h
  clear h
  go_enter Try.func72, Try.ntmps72
  go_wp2_with fail
  go_loopw [0, 7] (fun x z wr => ∃ (k : Nat) (cur : List Nat), z = .int .i64 ((k : Int) - 1) ∧ k ≤ count ∧ Hid (OwnB w0 x cur wr) ∧ Hid (Kp v x w wr) ∧ Hid (cur ++ bys n k = bs ++ bys n count)) (fun _ z _ => (intOf z + 1).toNat)
  case atStart => exact ⟨count, bs, by go_num, by omega, H, Lib.hid (Kp.refl _ _), Lib.hid rfl⟩
  case round =>
    obtain ⟨k, cur, rfl, hk, HO, HK, HE⟩ := hrel
    have hlen : cur.length ≤ 1000008 := by have := congrArg List.length HE.out; simp [bys_len] at this; omega
    rcases k with _ | i
    · have e : cur = bs ++ bys n count := by simpa [bys] using HE.out
      have t0 : decide ((0 : Int) ≤ (((0 : Nat) : Int) - 1)) = false := decide_eq_false (by omega)
      go_wp2_with fail
      go_ret
      exact ⟨_, rfl, e ▸ HO.out, HK.out⟩
    · have t0 : decide ((0 : Int) ≤ (i : Int)) = true := decide_eq_true (by omega)
      have e1 : (((i + 1 : Nat) : Int) - 1) = (i : Int) := by omega
      rw [e1]
      have hs := shr_byte n i
      have HE2 := Lib.hid (show (cur ++ [n / 256 ^ i % 256]) ++ bys n i = bs ++ bys n count by rw [← HE.out]; simp [bys])
      generalize n / 256 ^ i % 256 = c at *
      have HO2 := Lib.hid (OwnL.alloc HO.out (.cells #[.int .u8 (c : Int)] 5))
      have HK2 := Lib.hid (HK.out.alloc (.cells #[.int .u8 (c : Int)] 5))
      clear HE HO HK
      go_wp2_with (at_builtin; refine wpList_append_own_at _ rfl _ _ 27 rfl w0.heap.size 5 i0 (.int .u8 0) 1 1 Try.underlying27 HQ.out.1 HQ.out.2.1 HQ.out.2.2.1 HQ.out.2.2.2 rfl (by decide) _ _ _ rfl HO2.out.row ⟨wr.heap.size, 0, none⟩ 1 1 [.int .u8 (c : Int)] rfl rfl (one_new _ _ _) ?m2 ?m3 ?m4 HO2.out.below.size ?_)
      case m2 => intro x hx; simp at hx; subst hx; rfl
      case m3 => unfold maxLen; omega
      case m4 => omega
      intro v2 w2 hown hgrow _ hat
      have HK3 := Lib.hid (HK2.out.trans (Kp.grown hgrow hat (by simp)))
      have HO3 := Lib.hid (OwnL.grown (m := [c]) HO2.out hown hgrow)
      clear hown hgrow hat HO2 HK2
      go_wp2_with fail
      go_roundw
      case rel => exact ⟨i, cur ++ [c], by go_num, by omega, HO3, HK3, HE2⟩
      case measure => simp [intOf]
end Go.Proofs.Ytebdldinlodgpaa.Rc
