/-
  Layer 4 (clock): the contract of spans, as an iterator: the ranges of instants between two changes, from the last one to the first one. Conditions: the zone lies in its box and its changes in their cells; a round keeps both, and the iterator's own blocks.
-/
import Derived.Test.YtbbfkpkibakieaaPrZb
import Derived.Shelf.Abstract
namespace Go.Proofs.Ytbbfkpkibakieaa
open Go Go.RowKit Go.Lib
attribute [local go_sem] Oper.semAt_some

abbrev Span := Int × Int × Int
/-- The spans of changes that come from the last one on, before the instant 'to'. -/
def spP : Int → List (Int × Int) → List Span
  | _, [] => []
  | to, c :: r => (c.1, to, c.2) :: spP c.1 r
def toO : Int → List (Int × Int) → Int
  | to, [] => to
  | _, c :: r => toO c.1 r
theorem spP_snoc (to : Int) (r : List (Int × Int)) (c : Int × Int) : spP to (r ++ [c]) = spP to r ++ [(c.1, toO to r, c.2)] := by
  induction r generalizing to with
  | nil => rfl
  | cons d r ih => simp [spP, toO, ih]
theorem toO_snoc (to : Int) (r : List (Int × Int)) (c : Int × Int) : toO to (r ++ [c]) = c.1 := by
  induction r generalizing to with
  | nil => rfl
  | cons d r ih => simp [toO, ih]
theorem spP_pre (to : Int) (r s : List (Int × Int)) : spP to r <+: spP to (r ++ s) := by
  induction r generalizing to with
  | nil => exact List.nil_prefix
  | cons d r ih => exact List.cons_prefix_cons.2 ⟨rfl, ih _⟩
/-- The instant behind the last one. -/
abbrev END : Int := 120968640
/-- The spans of a zone, from the last one to the first one. -/
def spL (off : Int) (cs : List (Int × Int)) : List Span := spP END cs.reverse ++ (if 0 < toO END cs.reverse then [(0, toO END cs.reverse, off)] else [])
def encS (s : Span) : Array Value := #[.agg #[.int .i64 s.1, .int .i64 s.2.1, .int .i64 s.2.2]]

/-- The box of a zone. -/
def ZBox (w : World) (b : Nat) (off : Int) (a : Option Addr) (len cap : Nat) : Prop := w.heap[b]? = some (.cells #[.int .i64 off, .slice a len cap] 24 (0, 0))
theorem ZBox.c0 {w : World} {b : Nat} {off : Int} {a : Option Addr} {len cap : Nat} (h : ZBox w b off a len cap) : w.cell? ⟨b, 0, none⟩ = some (.int .i64 off) := by simp [World.cell?, show w.heap[b]? = _ from h]
theorem ZBox.c1 {w : World} {b : Nat} {off : Int} {a : Option Addr} {len cap : Nat} (h : ZBox w b off a len cap) : w.cell? ⟨b, 1, none⟩ = some (.slice a len cap) := by simp [World.cell?, show w.heap[b]? = _ from h]
theorem ZBox.lt {w : World} {b : Nat} {off : Int} {a : Option Addr} {len cap : Nat} (h : ZBox w b off a len cap) : b < w.heap.size := (Array.getElem?_eq_some_iff.1 h).1
theorem ZBox.new (w : World) (off : Int) (a : Option Addr) (len cap : Nat) : ZBox (w.alloc (.cells #[.int .i64 off, .slice a len cap] 24)) w.heap.size off a len cap := World.alloc_heap_new w _

/-- What lies in the box of a change. -/
structure CBox (w : World) (b : Nat) (x y : Int) : Prop where
  blk : w.heap[b]? = some (.cells #[.int .i64 x, .int .i64 y] 27 (0, 0))
theorem CBox.c0 {w : World} {b : Nat} {x y : Int} (h : CBox w b x y) : w.cell? ⟨b, 0, none⟩ = some (.int .i64 x) := by simp [World.cell?, h.blk]
theorem CBox.c1 {w : World} {b : Nat} {x y : Int} (h : CBox w b x y) : w.cell? ⟨b, 1, none⟩ = some (.int .i64 y) := by simp [World.cell?, h.blk]
theorem CBox.lt {w : World} {b : Nat} {x y : Int} (h : CBox w b x y) : b < w.heap.size := (Array.getElem?_eq_some_iff.1 h.blk).1
theorem ab_cbox {β : Type} {lo hi B : Nat} (x y : Int) (hB : B < lo ∨ hi ≤ B) : Ab lo hi (fun (_ : β) W => CBox W B x y) := fun s X Y row hs hg hr => by
  refine ⟨(hg.block B hs.lt (fun e => ?_)).trans hs.blk⟩
  obtain ⟨h1, h2⟩ := hr B e.symm
  rcases h2 with h2 | ⟨o, ho, hc⟩
  · omega
  · rw [hs.blk] at ho; cases ho; cases hc
theorem ab_zbox {β : Type} {lo hi B : Nat} (off : Int) (a : Option Addr) (len cap : Nat) (hB : B < lo) : Ab lo hi (fun (_ : β) W => ZBox W B off a len cap) := fun s X Y row hs hg hr => by
  refine (hg.block B hs.lt (fun e => ?_)).trans hs
  have := (hr B e.symm).1
  omega
theorem ab_row {β : Type} {lo hi B : Nat} (a : Option Addr) (len : Nat) (cs : List (Int × Int)) (hB : B ≤ lo) : Ab lo hi (fun (_ : β) W => ChRow W B a len cs) := fun s X Y row hs hg hr =>
  hs.kept fun k o hk ho => (hg.block k (Array.getElem?_eq_some_iff.1 ho).1 (fun e => by have := (hr k e.symm).1; omega)).trans ho

def snds (pre : List (Int × (Int × Int))) : List (Int × Int) := pre.map (·.2)
theorem snds_snoc (pre : List (Int × (Int × Int))) (x : Int × (Int × Int)) : snds (pre ++ [x]) = snds pre ++ [x.2] := by simp [snds]
/-- What the iterator asks of the caller's own blocks. -/
structure Aside (n₀ zb D : Nat) (mine : Nat → Obj → Prop) : Prop where
  low : ∀ k o, k < n₀ → ¬ mine k o
  box : ∀ o, ¬ mine zb o
  own : ∀ k o, D ≤ k → k < D + 7 → ¬ mine k o
  chg : ∀ k vs fz, D + 7 ≤ k → ¬ mine k (.cells vs 27 fz)

set_option maxRecDepth 100000 in
set_option maxHeartbeats 4000000 in
theorem spans_iter {F : Fence} {n : Nat} (hro : F.round = none) (hd : F.depth = none) (h44 : F.fn 44) (h45 : F.fn 45) (h46 : F.fn 46) (zb n₀ : Nat) (off : Int) (a : Option Addr) (len cap : Nat) (cs : List (Int × Int)) (hlen : len ≤ 64) (D : Nat) (mine : Nat → Obj → Prop) (w : World)
    (hz : ZBox w zb off a len cap) (hr : ChRow w n₀ a len cs) (hn₀ : n₀ ≤ w.heap.size) (hnD : n₀ ≤ D) (hzD : zb < D) (hm : Aside n₀ zb D mine) :
    Iter F n Try.prog 44 #[.pointer (some ⟨zb, 0, none⟩)] encS (spL off cs) 5 D mine w := by
  intro J Jx W1 hsz hw1 hJ hJx hY h0
  have hz1 : ZBox W1 zb off a len cap := (hw1.block zb hz.lt).trans hz
  have hr1 : ChRow W1 n₀ a len cs := hr.below (hw1.mono hn₀)
  clear hw1 hz hr
  refine callsIn_of_wp_marks Try.func44 rfl h44 ?_ hro
  simp only [Try.ntmps44, List.size_toArray, List.length_cons, List.length_nil, Nat.reduceAdd, Nat.reduceSub, Array.replicate_succ, Array.replicate_zero, List.push_toArray, List.append_toArray, List.nil_append, List.cons_append]
  have cz := hz1.c1
  have zlt := hz1.lt
  have HS := Lib.hid hsz
  clear hsz
  gi_wp2_with (gi_at_call 45; refine (back_any hro h45 _ _ _ _).mono ?_; rintro e w' ⟨rfl, rfl⟩)
  have bY := ((Boxed.new W1 61 (.func (.yield (D + 1)) #[] #[])).alloc (.cells #[.int .i64 120968640] 3)).alloc (.cells #[.slice a len cap] 22)
  have bT := (Boxed.new (W1.alloc (.cells #[.func (.yield (D + 1)) #[] #[]] 61)) 3 (.int .i64 END)).alloc (.cells #[.slice a len cap] 22)
  have bS := Boxed.new ((W1.alloc (.cells #[.func (.yield (D + 1)) #[] #[]] 61)).alloc (.cells #[.int .i64 120968640] 3)) 22 (.slice a len cap)
  simp only [World.size_alloc] at bT bS
  have hB0 : Below W1.heap.size W1 (((W1.alloc (.cells #[.func (.yield (D + 1)) #[] #[]] 61)).alloc (.cells #[.int .i64 120968640] 3)).alloc (.cells #[.slice a len cap] 22)) := (((Below.refl _ W1).alloc (Nat.le_refl _) _).alloc (by simp) _).alloc (by simp; omega) _
  have h1 : J [] (((W1.alloc (.cells #[.func (.yield (D + 1)) #[] #[]] 61)).alloc (.cells #[.int .i64 120968640] 3)).alloc (.cells #[.slice a len cap] 22)) := hJ.alloc _ (hJ.alloc _ (hJ.alloc _ h0))
  have hsz0 : (((W1.alloc (.cells #[.func (.yield (D + 1)) #[] #[]] 61)).alloc (.cells #[.int .i64 120968640] 3)).alloc (.cells #[.slice a len cap] 22)).heap.size = W1.heap.size + 3 := by simp
  generalize (((W1.alloc (.cells #[.func (.yield (D + 1)) #[] #[]] 61)).alloc (.cells #[.int .i64 120968640] 3)).alloc (.cells #[.slice a len cap] 22)) = W0 at *
  have hz0 : ZBox W0 zb off a len cap := (hB0.block zb zlt).trans hz1
  have hr0 : ChRow W0 n₀ a len cs := hr1.below (hB0.mono (by have := HS.out; omega))
  clear hB0 cz hz1 hr1 zlt h0
  rw [HS.out] at bY bT bS hsz0 ⊢
  clear HS
  have hS2 : W0.heap.size = D + 5 := by omega
  clear hsz0
  refine range_law (c := 0) (L := bkL cs) (encs := encB) (mine := fun k o => k = D + 3 ∨ mine k o ∨ k = D + 1) hd hro (gf := 46) (lb := #[.pointer (some ⟨D + 2 + 1 + 1, 0, none⟩)]) rfl h46 (enters_of Try.func46 (by kernel_rfl) rfl)
    (fun k o h1 h2 h3 => by have := hm.own k o (by omega) (by omega); rcases h3 with h3 | h3 | h3 <;> first | omega | exact this h3)
    (back_iter hro hd h46 (D + 4) n₀ a len cap cs hlen _ _ W0 bS hr0 (by omega) (fun o h => by have := hm.own (D + 4) o (by omega) (by omega); rcases h with h | h | h <;> first | omega | exact this h) (by omega) (fun k o hk h => by have := hm.low k o hk; rcases h with h | h | h <;> first | omega | exact this h) (by omega)) (fun _ => rfl)
    (fun pre W => (Boxed W (D + 2) 61 (.func (.yield (D + 1)) #[] #[]) ∧ Boxed W (D + 3) 3 (.int .i64 (toO END (snds pre)))) ∧ ZBox W zb off a len cap ∧ J (spP END (snds pre)) W)
    (fun cd pre W => cd = .ret ∧ Jx (spP END (snds pre)) W)
    (Ab.and (Ab.and (ab_boxed _ _ (.inl (by omega))) (ab_boxed _ _ (.inl (by omega)))) (Ab.and (ab_zbox _ _ _ _ (by omega)) (fun s X Y row hs hg hr => hJ _ X Y row hs hg (fun r e => ⟨by have := (hr r e).1; omega, (hr r e).2.elim (fun h => .inl (by omega)) .inr⟩))))
    (fun cd s X Y row hs hg hr => ⟨hs.1, hJx _ X Y row hs.2 hg (fun r e => ⟨by have := (hr r e).1; omega, (hr r e).2.elim (fun h => .inl (by omega)) .inr⟩)⟩)
    ⟨⟨bY, bT⟩, hz0, h1⟩
    (fun x a' W => ∃ Bx, D + 7 ≤ Bx ∧ CBox W Bx x.2.1 x.2.2 ∧ a' = { tmps := #[.func (.yield (D + 1)) #[] #[], .pointer (some ⟨zb, 0, none⟩), .pointer (some ⟨D + 2, 0, none⟩), .pointer (some ⟨D + 2 + 1, 0, none⟩), undef, .pointer (some ⟨Bx, 0, none⟩), .pointer (some ⟨zb, 1, none⟩), .slice a len cap, .func (.func 46) #[] #[.pointer (some ⟨D + 2 + 1 + 1, 0, none⟩)], .int .i64 x.1, .agg #[.int .i64 x.2.1, .int .i64 x.2.2], undef, undef, undef, undef, undef, undef, undef, undef, undef, undef, undef, undef, undef, undef, undef, undef, undef, undef, undef], defers := [] })
    (fun x a' s X Y row hs hg hr => by obtain ⟨Bx, h1, h2, h3⟩ := hs; exact ⟨Bx, h1, ab_cbox (β := Unit) x.2.1 x.2.2 (.inr (by omega)) () X Y row h2 hg hr, h3⟩)
    ?assign ?body ?done ?stop
  case assign =>
    rintro pre x W K ⟨⟨bY1, bT1⟩, hz1, hJ1⟩ hpre hbig hK
    dsimp only [encB]
    gi_wp2
    exact hK _ _ (KeepsBut.alloc _ _) ⟨⟨bY1.alloc _, bT1.alloc _⟩, ((Below.refl _ W).alloc (Nat.le_refl _) _).block zb hz1.lt |>.trans hz1, hJ.alloc _ hJ1⟩ ⟨W.heap.size, by omega, ⟨World.alloc_heap_new W _⟩, rfl⟩
  case body =>
    rintro pre x a' W ⟨⟨bY1, bT1⟩, hz1, hJ1⟩ ⟨Bx, hBx, bX, rfl⟩ hpre hbig
    have hp2 : spP END (snds pre) ++ [(x.2.1, toO END (snds pre), x.2.2)] <+: spL off cs := by
      rw [← spP_snoc]
      obtain ⟨t, ht⟩ := hpre
      have e : snds pre ++ [x.2] ++ t.map (·.2) = cs.reverse := by rw [← bkL_snd, ← ht]; simp [snds]
      refine List.IsPrefix.trans (spP_pre _ _ (t.map (·.2))) ?_
      rw [e]; exact List.prefix_append _ _
    obtain ⟨fn, tmps, assign, body, hy, hR⟩ := yield_any hd (n - 1) (W0.heap.size + 1) (hY _ _ W hJ1 hp2 (by omega))
    dsimp only [encS] at hy
    have hto := toO_snoc END (snds pre) x.2
    have hsp := spP_snoc END (snds pre) x.2
    have cY := bY1.cell
    have cT := bT1.cell
    have c0 := bX.c0
    have c1 := bX.c1
    have HT := Lib.hid hto
    have HP := Lib.hid hsp
    have HB := Lib.hid hbig
    clear hto hsp hp2 hpre hbig
    generalize toO END (snds pre) = to at *
    gi_wp2
    refine hR.mono ?_
    clear hR hy
    rintro e W3 (⟨rfl, hJ3, hk3⟩ | ⟨rfl, hJx3, hk3⟩)
    · have bY3 := hk3.boxed bY1 (fun h => h.elim (hm.own _ _ (by omega) (by omega)) (by omega))
      have bT3 := hk3.boxed bT1 (fun h => h.elim (hm.own _ _ (by omega) (by omega)) (by omega))
      have hz3 : ZBox W3 zb off a len cap := hk3.same zb _ hz1 (fun h => h.elim (hm.box _) (by omega))
      have bX3 : CBox W3 Bx x.2.1 x.2.2 := ⟨hk3.same Bx _ bX.blk (fun h => h.elim (hm.chg _ _ _ hBx) (by omega))⟩
      have cT3 := bT3.cell
      have fT3 := bT3.frozen
      have d0 := bX3.c0
      clear cY cT c0 c1 bY1 bT1 hz1 bX
      gi_wp2
      refine ⟨(hk3.wider fun k o h => .inr h).trans (KeepsBut.setCell _ _ _ fun _ _ => .inl rfl), ⟨bY3.other (by omega) _, ?_⟩, ?_, ?_⟩
      · rw [snds_snoc, HT.out]; exact bT3.set _
      · exact (Below.heap_setCell W3 ⟨D + 3, 0, none⟩ _ zb (by show zb ≠ D + 3; omega)).trans hz3
      · rw [snds_snoc, HP.out]; exact hJ.setCell _ hJ3 (by omega) (by omega)
    · gi_wp2
      refine ⟨hk3.wider fun k o h => .inr h, rfl, ?_⟩
      rw [snds_snoc, HP.out]; exact hJx3
  case done =>
    rintro W hbig ⟨⟨bY1, bT1⟩, hz1, hJ1⟩ hK
    rw [hS2] at hK
    have e1 : snds (bkL cs) = cs.reverse := bkL_snd cs
    rw [e1] at bT1 hJ1
    have hL : spL off cs = spP END cs.reverse ++ (if 0 < toO END cs.reverse then [(0, toO END cs.reverse, off)] else []) := rfl
    have cY := bY1.cell
    have cT := bT1.cell
    have cz := hz1.c0
    by_cases ht : 0 < toO END cs.reverse
    · rw [if_pos ht] at hL
      obtain ⟨fn, tmps, assign, body, hy, hR⟩ := yield_depth hd (n - 1) (hY _ (0, toO END cs.reverse, off) W hJ1 (by rw [hL]; exact List.prefix_refl _) (by omega))
      dsimp only [encS] at hy
      rw [← hL] at hR
      generalize toO END cs.reverse = to at *
      clear hL hJ1
      gi_wp2
      refine hR.mono ?_
      clear hR hy
      rintro e W3 h3
      have hk3 : KeepsBut (fun k o => mine k o ∨ k = D + 1) W W3 := h3.elim (fun h => h.2.2) (fun h => h.2.2)
      have hK3 : W3.heap[D + 5]? = some (.deferred (some [])) := hk3.same _ _ hK (fun h => h.elim (hm.own _ _ (by omega) (by omega)) (by omega))
      have h4 : (∃ v, e = .returned v) ∧ (J (spL off cs) W3 ∨ Jx (spL off cs) W3) := h3.elim (fun h => ⟨⟨_, h.1⟩, .inl h.2.1⟩) (fun h => ⟨⟨_, h.1⟩, .inr h.2.1⟩)
      clear h3
      obtain ⟨⟨v, rfl⟩, h4⟩ := h4
      gi_wp2
      refine ⟨by simp, .inl ⟨_, _, rfl, run_takeDeferred hK3, ?_⟩⟩
      refine ⟨_, results_none rfl _ _ _, ⟨_, rfl⟩, ?_⟩
      rcases h4 with h4 | h4
      · exact .inl (hJ.putObj _ h4 (by omega) hK3 rfl)
      · exact .inr ⟨_, List.prefix_refl _, hJx.putObj _ h4 (by omega) hK3 rfl⟩
    · rw [if_neg ht, List.append_nil] at hL
      rw [← hL] at hJ1
      generalize toO END cs.reverse = to at *
      clear hL
      gi_wp2
      refine ⟨by simp, .inl ⟨_, _, rfl, run_takeDeferred hK, ?_⟩⟩
      exact ⟨_, results_none rfl _ _ _, ⟨_, rfl⟩, .inl (hJ.putObj _ hJ1 (by omega) hK rfl)⟩
  case stop =>
    rintro cd pre W hpre ⟨rfl, hJ1⟩ hK
    gi_wp2
    refine ⟨by simp, .inl ⟨_, _, rfl, run_takeDeferred hK, ?_⟩⟩
    refine ⟨_, results_none rfl _ _ _, ⟨_, rfl⟩, .inr ⟨_, ?_, hJx.putObj _ hJ1 (by omega) hK rfl⟩⟩
    obtain ⟨t, ht⟩ := hpre
    have e : snds pre ++ t.map (·.2) = cs.reverse := by rw [← bkL_snd, ← ht]; simp [snds]
    refine List.IsPrefix.trans (spP_pre _ _ (t.map (·.2))) ?_
    rw [e]; exact List.prefix_append _ _

set_option maxHeartbeats 1000000 in
theorem spans_any {F : Fence} {n : Nat} (hro : F.round = none) (h35 : F.fn 35) (off : Int) (a : Option Addr) (len cap : Nat) (w : World) :
    CallsIn F n Try.prog 35 #[.agg #[.int .i64 off, .slice a len cap]] w fun e w' => e = .returned (.func (.func 44) #[] #[.pointer (some ⟨w.heap.size, 0, none⟩)]) ∧ w' = w.alloc (.cells #[.int .i64 off, .slice a len cap] 24) := by
  refine callsIn_of_wp Try.func35 rfl h35 ?_ hro
  simp only [Try.ntmps35, List.size_toArray, List.length_cons, List.length_nil, Nat.reduceAdd, Nat.reduceSub, Array.replicate_succ, Array.replicate_zero, List.push_toArray, List.append_toArray, List.nil_append, List.cons_append]
  gi_wp2
  go_ret
  exact ⟨rfl, rfl⟩
end Go.Proofs.Ytbbfkpkibakieaa
