/-
  Layer 4 (clock): the contract of Offset at a valid zone and an instant. Conditions: the zone is valid and lies in its cells.
-/
import Derived.Test.YtbbfkpkibakieaaPrZd
namespace Go.Proofs.Ytbbfkpkibakieaa
open Go Go.RowKit Go.Lib
attribute [local go_sem] Oper.semAt_some

/-- A span of a valid zone. -/
def SpOk (s : Span) : Prop := 0 ≤ s.1 ∧ s.1 < s.2.1 ∧ s.2.1 ≤ END ∧ -840 ≤ s.2.2 ∧ s.2.2 ≤ 840
/-- The caller's own blocks. -/
def mineA (n₀ zb hi : Nat) : Nat → Obj → Prop := fun k o => (n₀ ≤ k ∧ k < zb) ∨ (hi ≤ k ∧ ∃ vs fz, o = .cells vs 3 fz)
theorem mineA_aside {n₀ zb D : Nat} (h : zb < D) (h0 : n₀ ≤ zb) : Aside n₀ zb D (mineA n₀ zb (D + 7)) where
  low k o hk hm := by rcases hm with hm | hm <;> omega
  box o hm := by rcases hm with hm | hm <;> omega
  own k o h1 h2 hm := by rcases hm with hm | hm <;> omega
  chg k vs fz hk hm := by
    rcases hm with hm | ⟨_, vs', fz', e⟩
    · omega
    · cases e
theorem mem_of_pre {α : Type} {pre : List α} {x : α} {L : List α} (h : pre ++ [x] <+: L) : x ∈ L := h.subset (by simp)

/-- The box of a span. -/
structure SBox (w : World) (b : Nat) (s : Span) : Prop where
  blk : w.heap[b]? = some (.cells #[.int .i64 s.1, .int .i64 s.2.1, .int .i64 s.2.2] 55 (0, 0))
theorem SBox.c0 {w : World} {b : Nat} {s : Span} (h : SBox w b s) : w.cell? ⟨b, 0, none⟩ = some (.int .i64 s.1) := by simp [World.cell?, h.blk]
theorem SBox.c1 {w : World} {b : Nat} {s : Span} (h : SBox w b s) : w.cell? ⟨b, 1, none⟩ = some (.int .i64 s.2.1) := by simp [World.cell?, h.blk]
theorem SBox.c2 {w : World} {b : Nat} {s : Span} (h : SBox w b s) : w.cell? ⟨b, 2, none⟩ = some (.int .i64 s.2.2) := by simp [World.cell?, h.blk]
theorem SBox.lt {w : World} {b : Nat} {s : Span} (h : SBox w b s) : b < w.heap.size := (Array.getElem?_eq_some_iff.1 h.blk).1
theorem SBox.new (w : World) (s : Span) : SBox (w.alloc (.cells #[.int .i64 s.1, .int .i64 s.2.1, .int .i64 s.2.2] 55)) w.heap.size s := ⟨World.alloc_heap_new w _⟩
theorem ab_sbox {β : Type} {lo hi B : Nat} (s : Span) (hB : hi ≤ B) : Ab lo hi (fun (_ : β) W => SBox W B s) := fun _ X Y row hs hg hr => by
  refine ⟨(hg.block B hs.lt (fun e => ?_)).trans hs.blk⟩
  obtain ⟨h1, h2⟩ := hr B e.symm
  rcases h2 with h2 | ⟨o, ho, hc⟩
  · omega
  · rw [hs.blk] at ho; cases ho; cases hc

/-- The two boxes of the arguments, behind a call that changes nothing. -/
structure Two (w w1 : World) (off : Int) (a : Option Addr) (n cap : Nat) (t : Int) : Prop where
  z : ZBox w1 w.heap.size off a n cap
  t : Boxed w1 (w.heap.size + 1) 3 (.int .i64 t)
  below : Below w.heap.size w w1
  size : w.heap.size + 1 < w1.heap.size
theorem two_new (w : World) (off : Int) (a : Option Addr) (n cap : Nat) (t : Int) : Two w ((w.alloc (.cells #[.int .i64 off, .slice a n cap] 24)).alloc (.cells #[.int .i64 t] 3)) off a n cap t := by
  have e1 := World.alloc_heap_new w (.cells #[.int .i64 off, .slice a n cap] 24)
  have e2 := World.alloc_heap_new (w.alloc (.cells #[.int .i64 off, .slice a n cap] 24)) (.cells #[.int .i64 t] 3)
  rw [World.size_alloc] at e2
  exact ⟨(Below.heap_alloc _ _ _ (by simp)).trans e1, e2, ((Below.refl _ _).alloc (Nat.le_refl _) _).alloc (by simp) _, by simp⟩
theorem Two.step {w w1 w2 : World} {off : Int} {a : Option Addr} {n cap : Nat} {t : Int} (h : Two w w1 off a n cap t) (hb : Below w1.heap.size w1 w2) : Two w w2 off a n cap t :=
  ⟨(hb.block _ h.z.lt).trans h.z, (hb.block _ h.t.lt).trans h.t, h.below.trans (hb.mono h.below.size), Nat.lt_of_lt_of_le h.size hb.size⟩

/-- All of them begin behind t. -/
def Late (t : Int) (l : List Span) : Prop := ∀ s ∈ l, t < s.1
theorem Late.nil (t : Int) : Late t [] := fun s hs => by simp at hs
theorem Late.snoc {t : Int} {l : List Span} (h : Late t l) {s : Span} (hs : t < s.1) : Late t (l ++ [s]) := fun q hq => (List.mem_append.1 hq).elim (h q) (fun e => by simp at e; subst e; exact hs)
/-- All but the last begin behind t. -/
def Hit (t : Int) (l : List Span) (v : Int) : Prop := ∃ ini s, l = ini ++ [s] ∧ Late t ini ∧ s.1 ≤ t ∧ v = s.2.2
/-- The offset at t, of spans from the last one to the first one. -/
def offV (t : Int) : List Span → Int
  | [] => 0
  | s :: r => if s.1 ≤ t then s.2.2 else offV t r
theorem offV_none {t : Int} {l : List Span} (h : Late t l) : offV t l = 0 := by
  induction l with
  | nil => rfl
  | cons s r ih => unfold offV; rw [if_neg (by have := h s (by simp); omega)]; exact ih (fun s hs => h s (by simp [hs]))
theorem offV_some {t : Int} {ini : List Span} {s : Span} {L : List Span} (hp : ini ++ [s] <+: L) (h : Late t ini) (hs : s.1 ≤ t) : offV t L = s.2.2 := by
  obtain ⟨r, rfl⟩ := hp
  induction ini with
  | nil => simp [offV, hs]
  | cons c ini ih =>
    have e := ih (fun s hs => h s (by simp [hs]))
    rw [show c :: ini ++ [s] ++ r = c :: (ini ++ [s] ++ r) by simp]
    unfold offV
    rw [if_neg (by have := h c (by simp); omega)]; exact e

set_option maxRecDepth 100000 in
set_option maxHeartbeats 4000000 in
theorem offset_ok (off : Int) (a : Option Addr) (n cap : Nat) (cs : List (Int × Int)) (t : Int) (hn : n ≤ 64) (w : World) (hr : ChRow w w.heap.size a n cs) (hv : vAE off cs t = 0) :
    Calls Try.prog 26 #[.agg #[.int .i64 off, .slice a n cap], .int .i64 t] w fun e w' => e = .returned (.tuple #[.int .i64 (offV t (spL off cs)), .int .i64 0]) ∧ Below w.heap.size w w' := by
  refine (callsIn_wide (n := 8)).1 ?_
  refine callsIn_of_wp_marks Try.func26 rfl trivial ?_ rfl
  simp only [Try.ntmps26, List.size_toArray, List.length_cons, List.length_nil, Nat.reduceAdd, Nat.reduceSub, Array.replicate_succ, Array.replicate_zero, List.push_toArray, List.append_toArray, List.nil_append, List.cons_append]
  have HV := Lib.hid hv
  have V := Lib.hid (validAt_any off a n cap cs t (by omega))
  clear hv
  gi_wp2
  refine ⟨trivial, ?_⟩
  gi_at_call 37
  refine (callsIn_wide.2 (V.out _ ((hr.below (((Below.refl _ _).alloc (Nat.le_refl _) _).alloc (by simp) _)).mono (by simp; omega)))).mono ?_
  rw [HV.out]
  rintro e w1 ⟨rfl, hw1⟩
  have T1 := (two_new w off a n cap t).step hw1
  clear hw1
  have cz0 := T1.z.c0
  have cz1 := T1.z.c1
  have hlt := T1.size
  have hlt0 : w.heap.size < w1.heap.size := by omega
  gi_wp2
  refine ⟨trivial, ?_⟩
  gi_at_call 35
  refine (spans_any rfl trivial _ _ _ _ _).mono ?_
  rintro e w' ⟨rfl, rfl⟩
  have T2 := (T1.step ((Below.refl _ _).alloc (Nat.le_refl _) (.cells #[.int .i64 0] 3))).step ((Below.refl _ _).alloc (Nat.le_refl _) (.cells #[.int .i64 off, .slice a n cap] 24))
  have bO := (Boxed.new w1 3 (.int .i64 0)).alloc (.cells #[.int .i64 off, .slice a n cap] 24)
  have bZ := ZBox.new (w1.alloc (.cells #[.int .i64 0] 3)) off a n cap
  rw [World.size_alloc] at bZ
  gi_wp2
  have hs0 : ((w1.alloc (.cells #[.int .i64 0] 3)).alloc (.cells #[.int .i64 off, .slice a n cap] 24)).heap.size = w1.heap.size + 2 := by simp
  generalize ((w1.alloc (.cells #[.int .i64 0] 3)).alloc (.cells #[.int .i64 off, .slice a n cap] 24)) = W0 at *
  have hr0 := hr.below T2.below
  have hA := mineA_aside (n₀ := w.heap.size) (zb := w1.heap.size + 1) (D := W0.heap.size) (by omega) (by omega)
  refine range_law (c := 5) (L := spL off cs) (encs := encS) (mine := mineA w.heap.size (w1.heap.size + 1) (W0.heap.size + 7)) rfl rfl (gf := 44) (lb := #[.pointer (some ⟨w1.heap.size + 1, 0, none⟩)]) rfl trivial (enters_of Try.func44 (by kernel_rfl) rfl)
    (fun k o h1 h2 => hA.own k o h1 (by omega)) (spans_iter rfl rfl trivial trivial trivial (w1.heap.size + 1) w.heap.size off a n cap cs hn _ _ W0 bZ hr0 (by omega) (by omega) (by omega) hA) (fun _ => rfl)
    (fun pre W => (Late t pre ∧ Boxed W w1.heap.size 3 (.int .i64 0)) ∧ Boxed W (w.heap.size + 1) 3 (.int .i64 t) ∧ Below w.heap.size w W)
    (fun c pre W => (c = .exit 0 ∧ ∃ v, Hit t pre v ∧ Boxed W w1.heap.size 3 (.int .i64 v)) ∧ Below w.heap.size w W)
    (Ab.and (Ab.and (ab_pure _ _ _) (ab_boxed _ _ (.inl (by omega)))) (Ab.and (ab_boxed _ _ (.inl (by omega))) (ab_below (Nat.le_refl _) (by omega))))
    (fun c => Ab.and (fun s X Y row hs hg hr => by
      obtain ⟨h1, v, h2, h5⟩ := hs
      exact ⟨h1, v, h2, ab_boxed (β := Unit) _ (fun _ => .int .i64 v) (.inl (by omega)) () X Y row h5 hg hr⟩) (ab_below (Nat.le_refl _) (by omega)))
    ⟨⟨Late.nil t, bO⟩, T2.t, T2.below⟩
    (fun x a' W => ∃ Bx, W0.heap.size + 7 ≤ Bx ∧ SBox W Bx x ∧ a' = { tmps := #[.agg #[.int .i64 off, .slice a n cap], .int .i64 t, .pointer (some ⟨w.heap.size, 0, none⟩), .pointer (some ⟨w.heap.size + 1, 0, none⟩), .int .i64 0, .int .i64 0, .int .i64 0, .pointer (some ⟨w1.heap.size, 0, none⟩), .pointer (some ⟨Bx, 0, none⟩), .agg #[.int .i64 off, .slice a n cap], .int .i64 t, .int .i64 0, .int .i64 0, .bool false, undef, .agg #[.int .i64 off, .slice a n cap], .func (.func 44) #[] #[.pointer (some ⟨w1.heap.size + 1, 0, none⟩)], .agg #[.int .i64 x.1, .int .i64 x.2.1, .int .i64 x.2.2], undef, undef, undef, undef, undef, undef, undef], defers := [] })
    (fun x a' s X Y row hs hg hr => by obtain ⟨Bx, h1, h2, h3⟩ := hs; exact ⟨Bx, h1, ab_sbox (β := Unit) x (by omega) () X Y row h2 hg hr, h3⟩)
    ?assign ?body ?done ?stop
  case assign =>
    rintro pre x W K ⟨⟨hp, bO1⟩, bt1, hB1⟩ hpre hbig hK
    dsimp only [encS]
    gi_wp2
    exact hK _ _ (KeepsBut.alloc _ _) ⟨⟨hp, bO1.alloc _⟩, bt1.alloc _, hB1.alloc (by omega) _⟩ ⟨W.heap.size, by omega, SBox.new W x, rfl⟩
  case body =>
    rintro pre x a' W ⟨⟨hp, bO1⟩, bt1, hB1⟩ ⟨Bx, hBx, bX, rfl⟩ hpre hbig
    have ct := bt1.cell
    have cO := bO1.cell
    have fO := bO1.frozen
    have c0 := bX.c0
    have c2 := bX.c2
    by_cases hx : x.1 ≤ t
    · gi_wp2
      exact ⟨KeepsBut.setCell _ _ _ (fun _ _ => .inl ⟨by omega, by omega⟩), ⟨rfl, _, ⟨pre, x, rfl, hp, hx, rfl⟩, bO1.set _⟩, hB1.setCell (p := ⟨w1.heap.size, 0, none⟩) (by show w.heap.size ≤ w1.heap.size; omega) _⟩
    · gi_wp2
      exact ⟨KeepsBut.refl _ _, ⟨hp.snoc (by omega), bO1⟩, bt1, hB1⟩
  case done =>
    rintro W hbig ⟨⟨hp, bO1⟩, bt1, hB1⟩ hK
    have cO := bO1.cell
    gi_wp2
    refine ⟨by simp, .inl ⟨_, _, rfl, run_takeDeferred hK, ?_⟩⟩
    refine ⟨.tuple #[.int .i64 0, .int .i64 0], by simp [results, Try.f26, go_sem], by rw [offV_none hp], hB1.trans (belowK_b (w := w) (Nat.le_refl _) W W0.heap.size _ _ (by omega) hK rfl rfl)⟩
  case stop =>
    rintro c pre W hpre ⟨⟨rfl, v, hv, bO1⟩, hB1⟩ hK
    have cO := bO1.cell
    gi_wp2
    refine ⟨by simp, .inl ⟨_, _, rfl, run_takeDeferred hK, ?_⟩⟩
    refine ⟨.tuple #[.int .i64 v, .int .i64 0], by simp [results, Try.f26, go_sem], ?_, hB1.trans (belowK_b (w := w) (Nat.le_refl _) W W0.heap.size _ _ (by omega) hK rfl rfl)⟩
    obtain ⟨ini, s, rfl, h1, h2, rfl⟩ := hv
    rw [offV_some hpre h1 h2]
end Go.Proofs.Ytbbfkpkibakieaa
