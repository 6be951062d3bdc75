/-
  Layer 4 (clock): the contract of First at a valid zone. Conditions: the zone is valid and lies in its cells.
-/
import Derived.Test.YtbbfkpkibakieaaPrZe
namespace Go.Proofs.Ytbbfkpkibakieaa
open Go Go.RowKit Go.Lib
attribute [local go_sem] Oper.semAt_some

theorem Two.set {w w1 : World} {off : Int} {a : Option Addr} {n cap : Nat} {t : Int} (h : Two w w1 off a n cap t) (t' : Int) : Two w (w1.setCell ⟨w.heap.size + 1, 0, none⟩ (.int .i64 t')) off a n cap t' :=
  ⟨(Below.heap_setCell w1 ⟨w.heap.size + 1, 0, none⟩ _ w.heap.size (by show w.heap.size ≠ w.heap.size + 1; omega)).trans h.z, h.t.set _, h.below.setCell (p := ⟨w.heap.size + 1, 0, none⟩) (by show w.heap.size ≤ w.heap.size + 1; omega) _, by simpa [World.setCell] using h.size⟩

/-- One span's part in First. -/
def stF (l f : Int) (s : Span) : Int := if s.1 < l - s.2.2 then (if l - s.2.2 < s.2.1 then l - s.2.2 else f) else (if s.1 < s.2.1 then s.1 else f)
def fV (l : Int) (L : List Span) : Int := L.foldl (stF l) END
theorem fV_snoc (l : Int) (L : List Span) (s : Span) : fV l (L ++ [s]) = stF l (fV l L) s := by simp [fV]

set_option maxRecDepth 100000 in
set_option maxHeartbeats 4000000 in
theorem first_at (off : Int) (a : Option Addr) (n cap : Nat) (cs : List (Int × Int)) (t : Int) (hn : n ≤ 64) (w : World) (hr : ChRow w w.heap.size a n cs) (hv : vE off cs = 0) (hL : ∀ s ∈ spL off cs, SpOk s) (l : Int) (hl : nearT t = l) :
    Calls Try.prog 21 #[.agg #[.int .i64 off, .slice a n cap], .int .i64 t] w fun e w' => e = .returned (.tuple #[.int .i64 (fV l (spL off cs)), .int .i64 0]) ∧ Below w.heap.size w w' := by
  refine (callsIn_wide (n := 8)).1 ?_
  refine callsIn_of_wp_marks Try.func21 rfl trivial ?_ rfl
  simp only [Try.ntmps21, List.size_toArray, List.length_cons, List.length_nil, Nat.reduceAdd, Nat.reduceSub, Array.replicate_succ, Array.replicate_zero, List.push_toArray, List.append_toArray, List.nil_append, List.cons_append]
  obtain ⟨l0, l1⟩ := nearT_bd t
  rw [hl] at l0 l1
  have HN := Lib.hid hl
  clear hl
  have HV := Lib.hid hv
  have V := Lib.hid (valid_any off a n cap cs (by omega))
  clear hv
  gi_wp2
  refine ⟨trivial, ?_⟩
  gi_at_call 10
  refine (callsIn_wide.2 (V.out _ ((hr.below (((Below.refl _ _).alloc (Nat.le_refl _) _).alloc (by simp) _)).mono (by simp; omega)))).mono ?_
  rw [HV.out]
  rintro e w1 ⟨rfl, hw1⟩
  have T1 := (two_new w off a n cap t).step hw1
  clear hw1
  have cz0 := T1.z.c0
  have cz1 := T1.z.c1
  have ct := T1.t.cell
  have ft := T1.t.frozen
  have hlt := T1.size
  have hlt0 : w.heap.size < w1.heap.size := by omega
  gi_wp2
  refine ⟨trivial, ?_⟩
  gi_at_call 34
  refine (callsIn_wide.2 (near_any t _)).mono ?_
  rw [HN.out]
  rintro e w' ⟨rfl, rfl⟩
  have T2 := T1.set l
  have hlt2 := T2.size
  have hlt20 : w.heap.size < (w1.setCell ⟨w.heap.size + 1, 0, none⟩ (.int .i64 l)).heap.size := by omega
  gi_wp2
  refine ⟨trivial, ?_⟩
  have hs2 : (w1.setCell ⟨w.heap.size + 1, 0, none⟩ (.int .i64 l)).heap.size = w1.heap.size := by simp [World.setCell]
  generalize (w1.setCell ⟨w.heap.size + 1, 0, none⟩ (.int .i64 l)) = w2 at *
  gi_at_call 35
  refine (spans_any rfl trivial _ _ _ _ _).mono ?_
  rintro e w' ⟨rfl, rfl⟩
  have T3 := (T2.step ((Below.refl _ _).alloc (Nat.le_refl _) (.cells #[.int .i64 120968640] 3))).step ((Below.refl _ _).alloc (Nat.le_refl _) (.cells #[.int .i64 off, .slice a n cap] 24))
  have bO := (Boxed.new w2 3 (.int .i64 120968640)).alloc (.cells #[.int .i64 off, .slice a n cap] 24)
  have bZ := ZBox.new (w2.alloc (.cells #[.int .i64 120968640] 3)) off a n cap
  rw [World.size_alloc, hs2] at bZ
  rw [hs2] at bO
  have hs0 : ((w2.alloc (.cells #[.int .i64 120968640] 3)).alloc (.cells #[.int .i64 off, .slice a n cap] 24)).heap.size = w1.heap.size + 2 := by simp [hs2]
  clear T1 T2 hlt2 hlt20 cz0 cz1 ct ft
  rw [World.size_alloc, hs2]
  clear hs2
  gi_wp2
  generalize ((w2.alloc (.cells #[.int .i64 120968640] 3)).alloc (.cells #[.int .i64 off, .slice a n cap] 24)) = W0 at *
  have hr0 := hr.below T3.below
  have hA := mineA_aside (n₀ := w.heap.size) (zb := w1.heap.size + 1) (D := W0.heap.size) (by omega) (by omega)
  refine range_law (c := 5) (L := spL off cs) (encs := encS) (mine := mineA w.heap.size (w1.heap.size + 1) (W0.heap.size + 7)) rfl rfl (gf := 44) (lb := #[.pointer (some ⟨w1.heap.size + 1, 0, none⟩)]) rfl trivial (enters_of Try.func44 (by kernel_rfl) rfl)
    (fun k o h1 h2 => hA.own k o h1 (by omega)) (spans_iter rfl rfl trivial trivial trivial (w1.heap.size + 1) w.heap.size off a n cap cs hn _ _ W0 bZ hr0 (by omega) (by omega) (by omega) hA) (fun _ => rfl)
    (fun pre W => Boxed W w1.heap.size 3 (.int .i64 (fV l pre)) ∧ Boxed W (w.heap.size + 1) 3 (.int .i64 l) ∧ Below w.heap.size w W)
    (fun _ _ _ => False)
    (Ab.and (ab_boxed _ _ (.inl (by omega))) (Ab.and (ab_boxed _ _ (.inl (by omega))) (ab_below (Nat.le_refl _) (by omega))))
    (fun c => ab_false _ _)
    ⟨bO, T3.t, T3.below⟩
    (fun x a' W => ∃ Bx, W0.heap.size + 7 ≤ Bx ∧ SBox W Bx x ∧ a' = { tmps := #[.agg #[.int .i64 off, .slice a n cap], .int .i64 t, .pointer (some ⟨w.heap.size, 0, none⟩), .pointer (some ⟨w.heap.size + 1, 0, none⟩), .int .i64 0, .int .i64 0, .int .i64 0, .pointer (some ⟨w1.heap.size, 0, none⟩), .pointer (some ⟨Bx, 0, none⟩), undef, .agg #[.int .i64 off, .slice a n cap], .int .i64 0, .int .i64 0, .bool false, undef, .int .i64 t, .int .i64 l, .agg #[.int .i64 off, .slice a n cap], .func (.func 44) #[] #[.pointer (some ⟨w1.heap.size + 1, 0, none⟩)], .agg #[.int .i64 x.1, .int .i64 x.2.1, .int .i64 x.2.2], undef, undef, undef, undef, undef, undef, undef, undef, undef, undef, undef, undef, undef], defers := [] })
    (fun x a' s X Y row hs hg hr => by obtain ⟨Bx, h1, h2, h3⟩ := hs; exact ⟨Bx, h1, ab_sbox (β := Unit) x (by omega) () X Y row h2 hg hr, h3⟩)
    ?assign ?body ?done ?stop
  case assign =>
    rintro pre x W K ⟨bO1, bt1, hB1⟩ hpre hbig hK
    dsimp only [encS]
    gi_wp2
    exact hK _ _ (KeepsBut.alloc _ _) ⟨bO1.alloc _, bt1.alloc _, hB1.alloc (by omega) _⟩ ⟨W.heap.size, by omega, SBox.new W x, rfl⟩
  case body =>
    rintro pre x a' W ⟨bO1, bt1, hB1⟩ ⟨Bx, hBx, bX, rfl⟩ hpre hbig
    obtain ⟨x0, x1, x2, x3, x4⟩ := hL x (mem_of_pre hpre)
    have hst : fV l (pre ++ [x]) = stF l (fV l pre) x := fV_snoc _ _ _
    have ct := bt1.cell
    have cO := bO1.cell
    have fO := bO1.frozen
    have c0 := bX.c0
    have c1 := bX.c1
    have c2 := bX.c2
    have x5 : x.1 < 120968640 := by unfold END at x2; omega
    generalize fV l pre = f at *
    unfold stF at hst
    have HS := Lib.hid hst
    clear hst hpre hbig hL
    by_cases h1 : x.1 < l - x.2.2
    · by_cases h2 : l - x.2.2 < x.2.1
      · gi_wp2
        exact ⟨KeepsBut.setCell _ _ _ (fun _ _ => .inl ⟨by omega, by omega⟩), by rw [HS.out, if_pos h1, if_pos h2]; exact bO1.set _, bt1.other (by omega) _, hB1.setCell (p := ⟨w1.heap.size, 0, none⟩) (by show w.heap.size ≤ w1.heap.size; omega) _⟩
      · gi_wp2
        exact ⟨KeepsBut.refl _ _, by rw [HS.out, if_pos h1, if_neg (by omega)]; exact bO1, bt1, hB1⟩
    · gi_wp2
      exact ⟨KeepsBut.setCell _ _ _ (fun _ _ => .inl ⟨by omega, by omega⟩), by rw [HS.out, if_neg (by omega), if_pos x1]; exact bO1.set _, bt1.other (by omega) _, hB1.setCell (p := ⟨w1.heap.size, 0, none⟩) (by show w.heap.size ≤ w1.heap.size; omega) _⟩
  case done =>
    rintro W hbig ⟨bO1, bt1, hB1⟩ hK
    have cO := bO1.cell
    gi_wp2
    refine ⟨by simp, .inl ⟨_, _, rfl, run_takeDeferred hK, ?_⟩⟩
    exact ⟨.tuple #[.int .i64 (fV l (spL off cs)), .int .i64 0], by simp [results, Try.f21, go_sem], rfl, hB1.trans (belowK_b (w := w) (Nat.le_refl _) W W0.heap.size _ _ (by omega) hK rfl rfl)⟩
  case stop =>
    rintro c pre W hpre h hK
    exact h.elim
theorem first_ok (off : Int) (a : Option Addr) (n cap : Nat) (cs : List (Int × Int)) (t : Int) (hn : n ≤ 64) (w : World) (hr : ChRow w w.heap.size a n cs) (hv : vE off cs = 0) (hL : ∀ s ∈ spL off cs, SpOk s) :
    Calls Try.prog 21 #[.agg #[.int .i64 off, .slice a n cap], .int .i64 t] w fun e w' => e = .returned (.tuple #[.int .i64 (fV (nearT t) (spL off cs)), .int .i64 0]) ∧ Below w.heap.size w w' := first_at off a n cap cs t hn w hr hv hL _ rfl
end Go.Proofs.Ytbbfkpkibakieaa
