/-
  Layer 6 (timeline): mathematics of Diff: the days at which it cuts; rows of ranges in memory. No condition.
-/
import Derived.Test.YtdpgmjmmnjbbiaaPrUk
namespace Go.Proofs.Ytdpgmjmmnjbbiaa.Tl
open Go Go.RowKit Go.Lib Go.Sort Go.Shelf Go.Proofs Go.Proofs.Ytdpgmjmmnjbbiaa Go.Proofs.Ytdpgmjmmnjbbiaa.Tp
set_option linter.unusedVariables false

/-- The i-th cut; behind the last one the day behind the range. -/
def pos (ys : List Int) (to : Int) (i : Nat) : Int := if i < ys.length then ys[i]! else to + 1
/-- Cuts of the days fr to to, for some changes. -/
structure Cuts (ys : List Int) (fr to : Int) (L : List Chg) : Prop where
  asc : ys.Pairwise (· < ·)
  mem : ∀ x, x ∈ ys ↔ x = fr ∨ ∃ c ∈ L, c.fr = x ∧ fr + 1 ≤ x ∧ x ≤ to
  le : fr ≤ to
theorem Cuts.of (fr to : Int) (L : List Chg) (h : fr ≤ to) : Cuts (canon (begL fr to L)) fr to L := ⟨canon_asc _, fun x => by rw [mem_canon, mem_begL], h⟩
theorem Cuts.get {ys : List Int} {fr to : Int} {L : List Chg} (h : Cuts ys fr to L) {i j : Nat} (hij : i < j) (hj : j < ys.length) : ys[i]! < ys[j]! := by
  have := List.pairwise_iff_getElem.1 h.asc i j (by omega) hj hij
  rwa [getElem!_pos ys i (by omega), getElem!_pos ys j hj]
theorem Cuts.bd {ys : List Int} {fr to : Int} {L : List Chg} (h : Cuts ys fr to L) {i : Nat} (hi : i < ys.length) : fr ≤ ys[i]! ∧ ys[i]! ≤ to := by
  have hm : ys[i]! ∈ ys := by rw [getElem!_pos ys i hi]; exact List.getElem_mem hi
  have := h.le
  rcases (h.mem _).1 hm with e | ⟨c, _, e, h1, h2⟩
  · omega
  · omega
theorem Cuts.idx {ys : List Int} {fr to : Int} {L : List Chg} (h : Cuts ys fr to L) {x : Int} (hx : x ∈ ys) : ∃ j, j < ys.length ∧ ys[j]! = x := by
  obtain ⟨j, hj, e⟩ := List.mem_iff_getElem.1 hx
  exact ⟨j, hj, by rw [getElem!_pos ys j hj]; exact e⟩
theorem Cuts.first {ys : List Int} {fr to : Int} {L : List Chg} (h : Cuts ys fr to L) : 0 < ys.length ∧ pos ys to 0 = fr := by
  obtain ⟨j, hj, e⟩ := h.idx ((h.mem fr).2 (.inl rfl))
  have h0 : 0 < ys.length := by omega
  refine ⟨h0, ?_⟩
  unfold pos
  rw [if_pos h0]
  rcases Nat.eq_zero_or_pos j with z | z
  · subst z; exact e
  · have := h.get z hj
    have := (h.bd h0).1
    omega
theorem Cuts.step {ys : List Int} {fr to : Int} {L : List Chg} (h : Cuts ys fr to L) {i : Nat} (hi : i < ys.length) : fr ≤ pos ys to i ∧ pos ys to i < pos ys to (i + 1) ∧ pos ys to (i + 1) ≤ to + 1 ∧ pos ys to i = ys[i]! := by
  have b := h.bd hi
  unfold pos
  rw [if_pos hi]
  by_cases h2 : i + 1 < ys.length
  · rw [if_pos h2]
    have b2 := h.bd h2
    have : ys[i]! < ys[i + 1]! := h.get (Nat.lt_succ_self i) h2
    omega
  · rw [if_neg h2]; omega
theorem Cuts.const {ys : List Int} {fr to : Int} {L : List Chg} (h : Cuts ys fr to L) {i : Nat} (hi : i < ys.length) {d : Int} (h1 : pos ys to i ≤ d) (h2 : d < pos ys to (i + 1)) : ∀ c ∈ L, ¬ (pos ys to i < c.fr ∧ c.fr ≤ d) := by
  rintro c hc ⟨h3, h4⟩
  obtain ⟨s1, s2, s3, s4⟩ := h.step hi
  obtain ⟨j, hj, e⟩ := h.idx ((h.mem c.fr).2 (.inr ⟨c, hc, rfl, by omega, by omega⟩))
  rcases Nat.lt_trichotomy j i with g | g | g
  · have := h.get g hi; omega
  · subst g; omega
  · have h5 : i + 1 < ys.length := by omega
    have e2 : pos ys to (i + 1) = ys[i + 1]! := by unfold pos; rw [if_pos h5]
    rcases Nat.lt_or_ge (i + 1) j with g2 | g2
    · have := h.get g2 hj; omega
    · have : j = i + 1 := by omega
      subst this; omega
/-- What Diff has found behind i cuts. -/
def difI (f : Int → Option Int) (ys : List Int) (fr to : Int) (i : Nat) : List Slc := days f [] fr (pos ys to i - fr).toNat
theorem difI_zero {f : Int → Option Int} {ys : List Int} {fr to : Int} {L : List Chg} (h : Cuts ys fr to L) : difI f ys fr to 0 = [] := by
  unfold difI; rw [h.first.2, Int.sub_self]; rfl
theorem difI_last (f : Int → Option Int) (ys : List Int) (fr to : Int) : difI f ys fr to ys.length = ranges f fr to := by
  unfold difI ranges pos; rw [if_neg (Nat.lt_irrefl _)]
theorem difI_step {f : Int → Option Int} {ys : List Int} {fr to : Int} {L : List Chg} (h : Cuts ys fr to L) {i : Nat} (hi : i < ys.length) (hf : ∀ d, pos ys to i ≤ d → d < pos ys to (i + 1) → f d = f (pos ys to i)) :
    difI f ys fr to (i + 1) = match f (ys[i]!) with | none => difI f ys fr to i | some v => blk (difI f ys fr to i) ys[i]! (pos ys to (i + 1) - 1) v := by
  obtain ⟨s1, s2, s3, s4⟩ := h.step hi
  unfold difI
  rw [show (pos ys to (i + 1) - fr).toNat = (pos ys to i - fr).toNat + (pos ys to (i + 1) - pos ys to i).toNat by omega, days_add, show fr + ((pos ys to i - fr).toNat : Int) = pos ys to i by omega,
    days_const f _ _ _ (by omega) (fun d h1 h2 => hf d h1 (by omega)), ← s4, show pos ys to i + ((pos ys to (i + 1) - pos ys to i).toNat : Int) - 1 = pos ys to (i + 1) - 1 by omega]
  cases h0 : f (pos ys to i) <;> rfl
theorem blk_va {out : List Slc} {a b v : Int} (h : ∀ s ∈ out, s.va = v) : ∀ s ∈ blk out a b v, s.va = v := by
  intro s hs
  unfold blk at hs
  split at hs
  · next s0 h0 =>
    split at hs
    · rcases List.mem_append.1 hs with h1 | h1
      · exact h s (List.dropLast_subset _ h1)
      · rw [List.mem_singleton] at h1; subst h1; rfl
    · rcases List.mem_append.1 hs with h1 | h1
      · exact h s h1
      · rw [List.mem_singleton] at h1; subst h1; rfl
  · rcases List.mem_append.1 hs with h1 | h1
    · exact h s h1
    · rw [List.mem_singleton] at h1; subst h1; rfl
theorem days_va {f : Int → Option Int} (hf : ∀ d v, f d = some v → v = 0) : ∀ (n : Nat) (out : List Slc) (a : Int), (∀ s ∈ out, s.va = 0) → ∀ s ∈ days f out a n, s.va = 0
  | 0, _, _, h => h
  | n + 1, out, a, h => by
    rw [days]
    refine days_va hf n _ _ ?_
    unfold step
    split
    · exact h
    · next v hv => have := hf a v hv; subst this; exact blk_va h
theorem difF_va (x y : Option Int) (v : Int) (h : difF x y = some v) : v = 0 := by
  unfold difF at h
  split at h
  · cases h
  · injection h with h; exact h.symm
theorem blk_nil (a b v : Int) : blk [] a b v = [⟨a, b, v⟩] := rfl
theorem blk_join (pre : List Slc) (s : Slc) (a b v : Int) (h : s.va = v ∧ s.to = a - 1) : blk (pre ++ [s]) a b v = pre ++ [⟨s.fr, b, v⟩] := by
  unfold blk; simp [h]
theorem blk_new (pre : List Slc) (s : Slc) (a b v : Int) (h : ¬ (s.va = v ∧ s.to = a - 1)) : blk (pre ++ [s]) a b v = pre ++ [s] ++ [⟨a, b, v⟩] := by
  unfold blk; simp [h]
theorem days_len (f : Int → Option Int) : ∀ (n : Nat) (out : List Slc) (a : Int), (days f out a n).length ≤ out.length + n
  | 0, _, _ => Nat.le_refl _
  | n + 1, out, a => by
    rw [days]
    have := days_len f n (step f out a) (a + 1)
    have h2 : (step f out a).length ≤ out.length + 1 := by
      unfold step
      split
      · omega
      · unfold blk
        split
        · split
          · next h0 _ =>
            have : out ≠ [] := by intro e; rw [e] at h0; simp at h0
            have : 0 < out.length := List.length_pos_iff.2 this
            simp
            try omega
          · simp
        · simp
    omega

/-! ## Rows of ranges -/
def fl2 (l : List Slc) : List Value := l.flatMap fun s => [.int .i64 s.fr, .int .i64 s.to]
theorem fl2_len : ∀ l : List Slc, (fl2 l).length = l.length * 2
  | [] => rfl
  | c :: r => by
    have := fl2_len r
    unfold fl2 at *
    rw [List.flatMap_cons, List.length_append, this]
    simp; omega
theorem fl2_app (l m : List Slc) : fl2 (l ++ m) = fl2 l ++ fl2 m := List.flatMap_append
theorem fl2_at : ∀ (l : List Slc) (i : Nat), i < l.length → (fl2 l)[i * 2]? = some (.int .i64 l[i]!.fr) ∧ (fl2 l)[i * 2 + 1]? = some (.int .i64 l[i]!.to)
  | [], i, h => by simp at h
  | x :: l, 0, _ => by simp [fl2]
  | x :: l, i + 1, h => by
    have := fl2_at l i (by simpa using h)
    rw [show (i + 1) * 2 = i * 2 + 2 by omega]
    simpa [fl2] using this
theorem infoR : (Try.prog.info? 56).map (fun i => (i.zero, i.size, i.bytes)) = some (some (.agg #[.int .i64 0, .int .i64 0]), 2, 16) := by kernel_rfl
theorem info2 : ∃ i0 : TypeInfo, Try.prog.info? 56 = some i0 ∧ i0.zero = some (.agg #[.int .i64 0, .int .i64 0]) ∧ i0.size = 2 ∧ i0.bytes = 16 := by
  obtain ⟨i0, hi, hz0, hz1, hz2⟩ := info_parts infoR
  exact ⟨i0, hi, hz0, hz1, hz2⟩
structure RngG (w0 : World) (v : Value) (l : List Slc) (W : World) : Prop where
  row : W.ownsRow w0.heap.size 56 2 v l.length (fl2 l)
  below : Below w0.heap.size w0 W
theorem RngG.nil (w : World) : RngG w (.slice none 0 0) [] w := ⟨World.ownsRow_nil _ _ _ _, Below.refl _ _⟩
theorem RngG.more {w0 W W' : World} {v : Value} {l : List Slc} (h : RngG w0 v l W) (hb : Below W.heap.size W W') : RngG w0 v l W' := by
  refine ⟨⟨h.row.1, ?_⟩, h.below.trans (hb.mono h.below.size)⟩
  rcases h.row.2 with h0 | ⟨g, cap, cur, e, h1, h2, h3⟩
  · exact .inl h0
  · exact .inr ⟨g, cap, cur, e, h1, (hb.block g (Array.getElem?_eq_some_iff.1 h2).1).trans h2, h3⟩
theorem RngG.grown {w0 W W' : World} {v v' : Value} {l : List Slc} {s : Slc} (h : RngG w0 v l W) (ho : W'.ownsRow w0.heap.size 56 2 v' (l.length + 1) (fl2 l ++ [.int .i64 s.fr, .int .i64 s.to])) (hg : W.grownBy W' v.ownBlock) : RngG w0 v' (l ++ [s]) W' :=
  ⟨by rw [List.length_append, fl2_app]; simpa [fl2] using ho, h.below.grown hg h.below.size fun g hg' => (h.row.lt g hg').1⟩
/-- The row while it holds something: its block, its last element. -/
theorem RngG.last {w0 W : World} {v : Value} {pre : List Slc} {s : Slc} (h : RngG w0 v (pre ++ [s]) W) :
    ∃ g cap, v = .slice (some ⟨g, 0, none⟩) (pre.length + 1) cap ∧ pre.length + 1 ≤ 9223372036854775807 ∧ w0.heap.size ≤ g ∧ g < W.heap.size ∧ W.cell? ⟨g, pre.length * 2 + 1, none⟩ = some (.int .i64 s.to) ∧ W.frozen? ⟨g, pre.length * 2 + 1, none⟩ = false ∧
      ∀ b, RngG w0 v (pre ++ [⟨s.fr, b, s.va⟩]) (W.setCell ⟨g, pre.length * 2 + 1, none⟩ (.int .i64 b)) := by
  have hr := h.row
  have hlen : (pre ++ [s]).length = pre.length + 1 := by simp
  rw [hlen] at hr
  rcases hr.2 with ⟨_, h0⟩ | ⟨g, cap, cur, rfl, hb, hg, hnc, hcm, hcs, htk⟩
  · omega
  · have a := fl2_at (pre ++ [s]) pre.length (by simp)
    have e : (pre ++ [s])[pre.length]! = s := by simp
    rw [e] at a
    have c := hr.cells (g := g) rfl _ _ a.2
    rw [add_z] at c
    have hgl := (Array.getElem?_eq_some_iff.1 hg).1
    refine ⟨g, cap, rfl, (by unfold maxLen at hcm; omega), hb, hgl, c, hr.frozenAt _, fun b => ⟨?_, ?_⟩⟩
    · have st := (hr.stored (pre.length * 2 + 1) (.int .i64 b)).1
      have e2 : (fl2 (pre ++ [s])).set (pre.length * 2 + 1) (.int .i64 b) = fl2 (pre ++ [⟨s.fr, b, s.va⟩]) := by
        rw [fl2_app, fl2_app, List.set_append_right _ _ (by rw [fl2_len]; omega), fl2_len]
        congr 1
        rw [show pre.length * 2 + 1 - pre.length * 2 = 1 by omega]
        rfl
      rw [e2] at st
      have hlen2 : (pre ++ [(⟨s.fr, b, s.va⟩ : Slc)]).length = pre.length + 1 := by simp
      rw [hlen2]
      exact st
    · refine ⟨h.below.os, h.below.tape, h.below.output, by simpa [World.setCell] using h.below.size, fun k hk => (Below.heap_setCell W _ _ k (by simp; omega)).trans (h.below.block k hk)⟩
/-- What Diff leaves. -/
def RowR (l : List Slc) (w : World) (a : Option Addr) (w' : World) : Prop := 0 < l.length → ∃ g, a = some ⟨g, 0, none⟩ ∧ w.heap.size ≤ g ∧ g < w'.heap.size ∧ ∀ i, i < l.length → w'.cell? ⟨g, i * 2, none⟩ = some (.int .i64 l[i]!.fr) ∧ w'.cell? ⟨g, i * 2 + 1, none⟩ = some (.int .i64 l[i]!.to)
theorem RngG.done {w0 W : World} {v : Value} {l : List Slc} (h : RngG w0 v l W) : ∃ a cap, v = .slice a l.length cap ∧ RowR l w0 a W := by
  rcases h.row.2 with ⟨rfl, h0⟩ | ⟨g, cap, cur, rfl, hb, hg, hnc, hcm, hcs, htk⟩
  · exact ⟨none, 0, by rw [h0], fun h1 => by omega⟩
  · refine ⟨_, cap, rfl, fun _ => ⟨g, rfl, hb, (Array.getElem?_eq_some_iff.1 hg).1, fun i hi => ?_⟩⟩
    have a := fl2_at l i hi
    have c0 := h.row.cells (g := g) rfl _ _ a.1
    have c1 := h.row.cells (g := g) rfl _ _ a.2
    rw [add_z] at c0 c1
    exact ⟨c0, c1⟩
def difA (cs : List Chg) (a b fr to : Int) : List Slc := if chkE cs fr to = 0 then difL cs a b fr to else []
def DifR (cs : List Chg) (a b fr to : Int) (w : World) (e : Ending) (w' : World) : Prop := ∃ x cap, e = .returned (.tuple #[.slice x (difA cs a b fr to).length cap, .int .i64 (chkE cs fr to)]) ∧ RowR (difA cs a b fr to) w x w' ∧ Below w.heap.size w w'
theorem dif_bad {cs : List Chg} {a b fr to c : Int} {w w' : World} (hc : c ≠ 0) (h : chkE cs fr to = c) (hb : Below w.heap.size w w') : DifR cs a b fr to w (.returned (.tuple #[.slice none 0 0, .int .i64 c])) w' := by
  have e : difA cs a b fr to = [] := if_neg (by rw [h]; exact hc)
  exact ⟨none, 0, by rw [e, h]; rfl, by rw [e]; exact fun h => absurd h (by decide), hb⟩
/-- Two values are one, told by their numbers and by whether they are. -/
theorem opt_eq (x y : Option Int) (h1 : x.getD 0 = y.getD 0) (h2 : x.isSome = y.isSome) : x = y := by
  cases x <;> cases y <;> simp_all
end Go.Proofs.Ytdpgmjmmnjbbiaa.Tl
