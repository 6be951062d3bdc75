/-
  The generator's Near and Zone: whatever the tape holds, an instant near the beginning of 2026, and a valid zone of at most three changes. Condition: the tape's block reads as a tape.
-/
import Derived.Test.YtbbfkpkibakieaaPrTq
import Derived.Test.YtbbfkpkibakieaaPrZj
import Derived.Deep.AppendLies
import Derived.Laws.OwnMore
namespace Go.Proofs.Ytbbfkpkibakieaa.Tp
open Go Go.RowKit Go.Lib Go.Proofs.Ytbbfkpkibakieaa

set_option maxRecDepth 100000 in
set_option maxHeartbeats 2000000 in
theorem gnear_any (b : Nat) (w : World) (h : TapeAt b w) :
    Calls Try.prog 16 #[.pointer (some ⟨b, 0, none⟩)] w (NearR b 29453760 29468161 w) := by
  go_enter Try.func16, Try.ntmps16
  go_wp2_with fail
  refine (next_any b 10 (by omega) (by omega) _ h).mono ?_
  rintro e w1 ⟨v1, rfl, a0, a1, T1, O1⟩
  go_wp2_with fail
  refine (next_any b 97 (by omega) (by omega) _ T1).mono ?_
  rintro e w2 ⟨v2, rfl, b0, b1, T2, O2⟩
  go_wp2_with fail
  refine (next_any b 8 (by omega) (by omega) _ T2).mono ?_
  rintro e w3 ⟨v3, rfl, c0, c1, T3, O3⟩
  have O := (O1.trans O2).trans O3
  clear O1 O2 O3 T1 T2 h
  go_wp2_with fail
  go_ret
  exact ⟨_, rfl, by omega, by omega, T3, O⟩

def ccells (c : Int × Int) : List Value := [.int .i64 c.1, .int .i64 c.2]
theorem ccells_at : ∀ (cs : List (Int × Int)) (i j : Nat) (hi : i < cs.length), j < 2 → (cs.flatMap ccells)[i * 2 + j]? = (ccells cs[i])[j]?
  | c :: cs, 0, j, _, hj => by
    rw [List.flatMap_cons, List.getElem?_append_left (by simp [ccells]; omega)]; simp
  | c :: cs, i + 1, j, hi, hj => by
    rw [List.flatMap_cons, List.getElem?_append_right (by simp [ccells]; omega)]
    have := ccells_at cs i j (by simpa using hi) hj
    rw [show (i + 1) * 2 + j - (ccells c).length = i * 2 + j by simp [ccells]; omega]
    simpa using this
theorem ccells_len (cs : List (Int × Int)) : (cs.flatMap ccells).length = cs.length * 2 := by
  induction cs with
  | nil => rfl
  | cons h hs ih => rw [List.flatMap_cons, List.length_append, ih, List.length_cons]; simp [ccells]; omega
theorem add_field (x : Addr) (i : Nat) : (⟨(x.add (i * 2)).block, (x.add (i * 2)).off + 1, none⟩ : Addr) = x.add (i * 2 + 1) := by
  have e : x.add (i * 2 + 1) = ⟨x.block, x.off + (i * 2 + 1), none⟩ := by unfold Addr.add; rw [if_neg (by omega)]
  rw [e]
  unfold Addr.add
  split
  · rename_i h; rw [show i * 2 + 1 = 1 by omega]
  · simp [Nat.add_assoc]
theorem chRow_mk {w : World} {x : Addr} {B n : Nat} {cs : List (Int × Int)} (hn : cs.length = n) (hx : x.block < B) (h : ∀ k u, (cs.flatMap ccells)[k]? = some u → w.cell? (x.add k) = some u) : ChRow w B (some x) n cs := by
  refine ⟨hn, fun _ => ⟨x, rfl, hx, fun i hi => ?_⟩⟩
  have c : ∀ j, j < 2 → ∀ u, (ccells cs[i])[j]? = some u → w.cell? (x.add (i * 2 + j)) = some u := fun j hj u hu => h _ u (by rw [ccells_at cs i j hi hj]; exact hu)
  refine ⟨by have := c 0 (by omega) _ rfl; simpa using this, ?_⟩
  rw [add_field]; exact c 1 (by omega) _ rfl
theorem chRow_own {w : World} {base : Nat} {e : TypeId} {v : Value} {n : Nat} {cs : List (Int × Int)} (hn : cs.length = n) (h : w.ownsRow base e 2 v n (cs.flatMap ccells)) : ∃ A cap, v = .slice A n cap ∧ ChRow w w.heap.size A n cs ∧ ∀ y, A = some y → base ≤ y.block := by
  rcases h.2 with ⟨rfl, h0⟩ | ⟨g, cap, cur, rfl, hb, hg, _⟩
  · exact ⟨_, _, by rw [h0], ⟨hn, fun h => by omega⟩, fun y e => by cases e⟩
  · have hlt : g < w.heap.size := (Array.getElem?_eq_some_iff.1 hg).1
    exact ⟨_, _, rfl, chRow_mk hn hlt fun k u hu => h.cells (g := g) rfl k u hu, fun y e => by injection e with e; subst e; exact hb⟩

theorem infoChg : (Try.prog.info? 27).map (fun i => (i.zero, i.size, i.bytes)) = some (some (.agg #[.int .i64 0, .int .i64 0]), 2, 16) := by kernel_rfl
theorem asc_snoc {b at_ o : Int} {cs : List (Int × Int)} (h : Asc b cs) (hl : ∀ c ∈ cs, c.1 < at_) (hb : b < at_) (h0 : 0 ≤ at_) (h1 : at_ ≤ 120968639) (h2 : -840 ≤ o) (h3 : o ≤ 840) : Asc b (cs ++ [(at_, o)]) := by
  induction cs generalizing b with
  | nil => exact ⟨hb, h0, h1, h2, h3, trivial⟩
  | cons c r ih =>
    obtain ⟨a1, a2, a3, a4, a5, a6⟩ := h
    exact ⟨a1, a2, a3, a4, a5, ih a6 (fun d hd => hl d (by simp [hd])) (hl c (by simp))⟩

theorem ChRow.far {w : World} {B : Nat} {a : Option Addr} {n : Nat} {cs : List (Int × Int)} (h : ChRow w B a n cs) (p : Addr) (v : Value) (hne : ∀ y, a = some y → p.block ≠ y.block) : ChRow (w.setCell p v) B a n cs := by
  refine ⟨h.1, fun hn => ?_⟩
  obtain ⟨x, ha, hx, hc⟩ := h.2 hn
  have key : ∀ (q : Addr) (u : Value), q.block = x.block → w.cell? q = some u → (w.setCell p v).cell? q = some u := fun q u hq hu => (World.cell?_of_block (Below.heap_setCell w p v q.block (by rw [hq]; exact (hne x ha).symm))).trans hu
  exact ⟨x, ha, hx, fun i hi => ⟨key _ _ (addB _ _) (hc i hi).1, key _ _ (addB _ _) (hc i hi).2⟩⟩

/-- The generator's zone while it is made: its box, its row, the tape, the result's box. -/
structure ZG (w0 : World) (b rb zb base : Nat) (off : Int) (v : Value) (cs : List (Int × Int)) (W : World) : Prop where
  box : W.heap[zb]? = some (.cells #[.int .i64 off, v] 24 (0, 0))
  res : W.heap[rb]? = some (.cells #[.int .i64 0, .slice none 0 0] 24 (0, 0))
  row : W.ownsRow base 27 2 v cs.length (cs.flatMap ccells)
  tape : TapeAt b W
  only : Only b w0 W
  size : base ≤ W.heap.size
theorem ZG.alloc {w0 W : World} {b rb zb base : Nat} {off : Int} {v : Value} {cs : List (Int × Int)} (h : ZG w0 b rb zb base off v cs W) (o : Obj) : ZG w0 b rb zb base off v cs (W.alloc o) :=
  ⟨(Below.heap_alloc W o zb (Array.getElem?_eq_some_iff.1 h.box).1).trans h.box, (Below.heap_alloc W o rb (Array.getElem?_eq_some_iff.1 h.res).1).trans h.res, h.row.alloc o, h.tape.alloc o, h.only.alloc o, by have := h.size; simp; omega⟩
theorem ZG.drew {w0 W : World} {b rb zb base : Nat} {off : Int} {v : Value} {cs : List (Int × Int)} (h : ZG w0 b rb zb base off v cs W) : ZG w0 b rb zb base off v cs W.drew :=
  ⟨h.box, h.res, h.row, h.tape.below (Below.drew (Below.refl _ _)), h.only.drew, h.size⟩
theorem ZG.only' {w0 W W' : World} {b rb zb base : Nat} {off : Int} {v : Value} {cs : List (Int × Int)} (h : ZG w0 b rb zb base off v cs W) (hO : Only b W W') (hT : TapeAt b W') (h1 : b < rb) (h2 : b < zb) (h3 : b < base) : ZG w0 b rb zb base off v cs W' := by
  refine ⟨(hO.block zb (Array.getElem?_eq_some_iff.1 h.box).1 (by omega)).trans h.box, (hO.block rb (Array.getElem?_eq_some_iff.1 h.res).1 (by omega)).trans h.res, ?_, hT, h.only.trans hO, Nat.le_trans h.size hO.size⟩
  refine ⟨h.row.1, ?_⟩
  rcases h.row.2 with h0 | ⟨g, cap, cur, rfl, hg, hc, rest⟩
  · exact .inl h0
  · exact .inr ⟨g, cap, cur, rfl, hg, (hO.block g (Array.getElem?_eq_some_iff.1 hc).1 (by omega)).trans hc, rest⟩
theorem ZG.c1 {w0 W : World} {b rb zb base : Nat} {off : Int} {v : Value} {cs : List (Int × Int)} (h : ZG w0 b rb zb base off v cs W) : W.cell? ⟨zb, 1, none⟩ = some v := by simp [World.cell?, h.box]
theorem ZG.c0 {w0 W : World} {b rb zb base : Nat} {off : Int} {v : Value} {cs : List (Int × Int)} (h : ZG w0 b rb zb base off v cs W) : W.cell? ⟨zb, 0, none⟩ = some (.int .i64 off) := by simp [World.cell?, h.box]
theorem ZG.f1 {w0 W : World} {b rb zb base : Nat} {off : Int} {v : Value} {cs : List (Int × Int)} (h : ZG w0 b rb zb base off v cs W) : W.frozen? ⟨zb, 1, none⟩ = false := by simp [World.frozen?, h.box]

theorem ZG.r0 {w0 W : World} {b rb zb base : Nat} {off : Int} {v : Value} {cs : List (Int × Int)} (h : ZG w0 b rb zb base off v cs W) : W.cell? ⟨rb, 0, none⟩ = some (.int .i64 0) := by simp [World.cell?, h.res]
theorem ZG.r1 {w0 W : World} {b rb zb base : Nat} {off : Int} {v : Value} {cs : List (Int × Int)} (h : ZG w0 b rb zb base off v cs W) : W.cell? ⟨rb, 1, none⟩ = some (.slice none 0 0) := by simp [World.cell?, h.res]
theorem ZG.q0 {w0 W : World} {b rb zb base : Nat} {off : Int} {v : Value} {cs : List (Int × Int)} (h : ZG w0 b rb zb base off v cs W) : W.frozen? ⟨rb, 0, none⟩ = false := by simp [World.frozen?, h.res]
theorem ZG.q1 {w0 W : World} {b rb zb base : Nat} {off : Int} {v : Value} {cs : List (Int × Int)} (h : ZG w0 b rb zb base off v cs W) : W.frozen? ⟨rb, 1, none⟩ = false := by simp [World.frozen?, h.res]

/-- Behind an append to the row, before the store: the box as it was. -/
theorem ZG.far6 {w0 W w6 : World} {b rb zb base : Nat} {off : Int} {v : Value} {cs : List (Int × Int)} (h : ZG w0 b rb zb base off v cs W) (hg : W.grownBy w6 v.ownBlock) :
    w6.heap[zb]? = some (.cells #[.int .i64 off, v] 24 (0, 0)) ∧ w6.heap[rb]? = some (.cells #[.int .i64 0, .slice none 0 0] 24 (0, 0)) := by
  have key : ∀ (k : Nat) (vs : Array Value), W.heap[k]? = some (Obj.cells vs 24 (0, 0)) → w6.heap[k]? = some (Obj.cells vs 24 (0, 0)) := fun k vs hk =>
    (hg.block k (Array.getElem?_eq_some_iff.1 hk).1 (fun e => by
      rcases h.row.2 with ⟨rfl, _⟩ | ⟨g, cap, cur, rfl, hg', hc, rest⟩
      · simp [Value.ownBlock] at e
      · have e2 : k = g := by simpa [Value.ownBlock] using e
        subst e2
        rw [hc] at hk; cases hk)).trans hk
  exact ⟨key _ _ h.box, key _ _ h.res⟩
theorem boxc1 {W : World} {k : Nat} {x v : Value} {t : TypeId} (h : W.heap[k]? = some (.cells #[x, v] t (0, 0))) : W.cell? ⟨k, 1, none⟩ = some v := by simp [World.cell?, h]
theorem boxf1 {W : World} {k : Nat} {x v : Value} {t : TypeId} (h : W.heap[k]? = some (.cells #[x, v] t (0, 0))) : W.frozen? ⟨k, 1, none⟩ = false := by simp [World.frozen?, h]
theorem box_set1 {W : World} {k : Nat} {x v : Value} {t : TypeId} (h : W.heap[k]? = some (.cells #[x, v] t (0, 0))) (v' : Value) : (W.setCell ⟨k, 1, none⟩ v').heap[k]? = some (.cells #[x, v'] t (0, 0)) := by
  obtain ⟨hlt, hk⟩ := Array.getElem?_eq_some_iff.1 h
  show (W.heap.modify k _)[k]? = _
  rw [Array.getElem?_eq_getElem (by rw [Array.size_modify]; exact hlt), Array.getElem_modify_self, hk]
  rfl
theorem ZG.stored {w0 W w6 : World} {b rb zb base : Nat} {off : Int} {v v' : Value} {cs : List (Int × Int)} {c : Int × Int} (h : ZG w0 b rb zb base off v cs W) (hg : W.grownBy w6 v.ownBlock)
    (hown : w6.ownsRow base 27 2 v' (cs.length + 1) (cs.flatMap ccells ++ [.int .i64 c.1, .int .i64 c.2])) (h1 : b < zb) (h2 : b < base) (h3 : rb ≠ zb) (h4 : w0.heap.size ≤ zb) (h5 : w0.heap.size ≤ base) :
    ZG w0 b rb zb base off v' (cs ++ [c]) (w6.setCell ⟨zb, 1, none⟩ v') := by
  obtain ⟨e1, e2⟩ := h.far6 hg
  have hOwn : ∀ j, v.ownBlock = some j → base ≤ j := fun j e => (h.row.lt j e).1
  have hO6 : Only b w0 w6 := ⟨hg.os.trans h.only.os, hg.tape.trans h.only.tape, hg.output.trans h.only.output, Nat.le_trans h.only.size hg.size, fun k hk hn =>
    (hg.block k (Nat.lt_of_lt_of_le hk h.only.size) (fun e => by have := hOwn k e.symm; omega)).trans (h.only.block k hk hn)⟩
  refine ⟨box_set1 e1 v', (Below.heap_setCell w6 ⟨zb, 1, none⟩ v' rb h3).trans e2, ?_, ?_, hO6.setCell (.inr h4) _, by have := h.size; have := hg.size; simp [World.setCell]; omega⟩
  · rw [List.length_append, List.flatMap_append, List.length_singleton]
    have e3 : [c].flatMap ccells = [.int .i64 c.1, .int .i64 c.2] := by simp [ccells]
    rw [e3]
    have hz : w6.grownBy (w6.setCell ⟨zb, 1, none⟩ v') (some zb) := ⟨rfl, rfl, rfl, by simp [World.setCell], fun k _ hk => Below.heap_setCell _ _ _ k (fun e => hk (by rw [e]))⟩
    refine hown.kept hz ?_
    rcases hown.2 with ⟨rfl, _⟩ | ⟨g, cap, cur, rfl, hg', hc, rest⟩
    · exact .inl rfl
    · refine .inr fun e => ?_
      have e4 : g = zb := by simpa [Value.ownBlock] using e
      subst e4
      rw [e1] at hc; cases hc
  · refine TapeAt.far ?_ (p := ⟨zb, 1, none⟩) h1 _
    obtain ⟨a, len, cap, zs, k, t1, t2, t3, t4, t5, t6⟩ := h.tape
    have fb : ∀ q : Addr, q.block ≤ b → ∀ u, W.cell? q = some u → w6.cell? q = some u := fun q hq u hu =>
      (World.cell?_of_block (hg.block q.block (World.block_lt_of_cell? W q hu) (fun e => by have := hOwn q.block e.symm; omega))).trans hu
    refine ⟨a, len, cap, zs, k, fb _ (Nat.le_refl _) _ t1, fb _ (Nat.le_refl _) _ t2, (World.frozen?_of_block (hg.block b (World.block_lt_of_cell? W _ t2) (fun e => by have := hOwn b e.symm; omega))).trans t3, t4, t5, ?_⟩
    rcases t6 with t6 | ⟨x, ha, hx, hc⟩
    · exact .inl t6
    · exact .inr ⟨x, ha, hx, fun i hi => ⟨fb _ (by rw [add_block]; omega) _ (hc i hi).1, (hc i hi).2⟩⟩

/-- What the generator's Zone leaves. -/
def ZoneR (b : Nat) (w : World) (e : Ending) (w' : World) : Prop :=
  ∃ (off : Int) (a : Option Addr) (n cap : Nat) (cs : List (Int × Int)), e = .returned (.agg #[.int .i64 off, .slice a n cap]) ∧ vE off cs = 0 ∧ n ≤ 3 ∧ ChRow w' w'.heap.size a n cs ∧ (∀ y, a = some y → w.heap.size ≤ y.block) ∧ TapeAt b w' ∧ Only b w w'

theorem fiv (w : World) (x0 x1 x2 x3 x4 : Int) (t : TypeId) : ∀ i, i < ([x0, x1, x2, x3, x4] : List Int).length → (w.alloc (.cells #[.int .i64 x0, .int .i64 x1, .int .i64 x2, .int .i64 x3, .int .i64 x4] t)).cell? ⟨w.heap.size, i, none⟩ = some (.int .i64 (([x0, x1, x2, x3, x4] : List Int).getD i 0)) := by
  intro i hi
  rcases i with _ | _ | _ | _ | _ | i
  · go_simp
  · go_simp
  · go_simp
  · go_simp
  · go_simp
  · simp at hi; omega
end Go.Proofs.Ytbbfkpkibakieaa.Tp
