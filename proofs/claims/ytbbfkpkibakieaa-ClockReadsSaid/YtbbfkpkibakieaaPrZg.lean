/-
  Layer 4 (clock): the contract of Day at a valid zone and an instant. Conditions: the zone is valid and lies in its cells.
-/
import Derived.Test.YtbbfkpkibakieaaPrZf
namespace Go.Proofs.Ytbbfkpkibakieaa
open Go Go.RowKit Go.Lib
attribute [local go_sem] Oper.semAt_some

/-- One span's part in Day: the greatest local minute until t. -/
def stG (t g : Int) (s : Span) : Int := if s.1 ≤ t then (if t ≤ s.2.1 - 1 then (if g < t + s.2.2 then t + s.2.2 else g) else (if g < s.2.1 - 1 + s.2.2 then s.2.1 - 1 + s.2.2 else g)) else g
def gV (t : Int) (L : List Span) : Int := L.foldl (stG t) 0
theorem gV_snoc (t : Int) (L : List Span) (s : Span) : gV t (L ++ [s]) = stG t (gV t L) s := by simp [gV]
theorem gV_bd (t : Int) (h0 : 0 ≤ t) (h1 : t ≤ 120968639) (L : List Span) (hL : ∀ s ∈ L, SpOk s) : 0 ≤ gV t L ∧ gV t L ≤ 120969479 := by
  suffices H : ∀ (M : List Span) (g : Int), (∀ s ∈ M, SpOk s) → 0 ≤ g → g ≤ 120969479 → 0 ≤ M.foldl (stG t) g ∧ M.foldl (stG t) g ≤ 120969479 from H L 0 hL (by omega) (by omega)
  intro M
  induction M with
  | nil => intro g _ a b; exact ⟨a, b⟩
  | cons s M ih =>
    intro g hM a b
    obtain ⟨s0, s1, s2, s3, s4⟩ := hM s (by simp)
    unfold END at s2
    refine ih _ (fun q hq => hM q (by simp [hq])) ?_ ?_ <;> (unfold stG; split <;> (try split) <;> (try split) <;> omega)
/-- What Day computes of it. -/
def dyT (g : Int) : Int := if g / 1440 ≤ 84005 then g / 1440 else 84005

set_option maxRecDepth 100000 in
set_option maxHeartbeats 4000000 in
theorem day_ok (off : Int) (a : Option Addr) (n cap : Nat) (cs : List (Int × Int)) (t : Int) (hn : n ≤ 64) (w : World) (hr : ChRow w w.heap.size a n cs) (hv : vAE off cs t = 0) (t0 : 0 ≤ t) (t1 : t ≤ 120968639) (hL : ∀ s ∈ spL off cs, SpOk s) :
    Calls Try.prog 22 #[.agg #[.int .i64 off, .slice a n cap], .int .i64 t] w fun e w' => e = .returned (.tuple #[.int .i64 (dyT (gV t (spL off cs))), .int .i64 0]) ∧ Below w.heap.size w w' := by
  refine (callsIn_wide (n := 8)).1 ?_
  refine callsIn_of_wp_marks Try.func22 rfl trivial ?_ rfl
  simp only [Try.ntmps22, List.size_toArray, List.length_cons, List.length_nil, Nat.reduceAdd, Nat.reduceSub, Array.replicate_succ, Array.replicate_zero, List.push_toArray, List.append_toArray, List.nil_append, List.cons_append]
  have HV := Lib.hid hv
  have V := Lib.hid (validAt_any off a n cap cs t (by omega))
  clear hv
  gi_wp2
  refine ⟨trivial, ?_⟩
  gi_at_call 37
  refine (callsIn_wide.2 (V.out _ ((hr.below (((Below.refl _ _).alloc (Nat.le_refl _) _).alloc (by simp) _)).mono (by simp; omega)))).mono ?_
  rw [HV.out]
  rintro e w1 ⟨rfl, hw1⟩
  have T1 := (two_new w off a n cap t).step hw1
  clear hw1
  have cz0 := T1.z.c0
  have cz1 := T1.z.c1
  have hlt := T1.size
  have hlt0 : w.heap.size < w1.heap.size := by omega
  gi_wp2
  refine ⟨trivial, ?_⟩
  gi_at_call 35
  refine (spans_any rfl trivial _ _ _ _ _).mono ?_
  rintro e w' ⟨rfl, rfl⟩
  have T2 := (T1.step ((Below.refl _ _).alloc (Nat.le_refl _) (.cells #[.int .i64 0] 3))).step ((Below.refl _ _).alloc (Nat.le_refl _) (.cells #[.int .i64 off, .slice a n cap] 24))
  have bO := (Boxed.new w1 3 (.int .i64 0)).alloc (.cells #[.int .i64 off, .slice a n cap] 24)
  have bZ := ZBox.new (w1.alloc (.cells #[.int .i64 0] 3)) off a n cap
  rw [World.size_alloc] at bZ
  gi_wp2
  have hs0 : ((w1.alloc (.cells #[.int .i64 0] 3)).alloc (.cells #[.int .i64 off, .slice a n cap] 24)).heap.size = w1.heap.size + 2 := by simp
  generalize ((w1.alloc (.cells #[.int .i64 0] 3)).alloc (.cells #[.int .i64 off, .slice a n cap] 24)) = W0 at *
  have hr0 := hr.below T2.below
  have hs1 : w1.heap.size + 2 ≤ W0.heap.size := by omega
  have hs2 : W0.heap.size ≤ w1.heap.size + 2 := by omega
  clear hs0
  have hA := mineA_aside (n₀ := w.heap.size) (zb := w1.heap.size + 1) (D := W0.heap.size) (by omega) (by omega)
  refine range_law (c := 5) (L := spL off cs) (encs := encS) (mine := mineA w.heap.size (w1.heap.size + 1) (W0.heap.size + 7)) rfl rfl (gf := 44) (lb := #[.pointer (some ⟨w1.heap.size + 1, 0, none⟩)]) rfl trivial (enters_of Try.func44 (by kernel_rfl) rfl)
    (fun k o h1 h2 => hA.own k o h1 (by omega)) (spans_iter rfl rfl trivial trivial trivial (w1.heap.size + 1) w.heap.size off a n cap cs hn _ _ W0 bZ hr0 (by omega) (by omega) (by omega) hA) (fun _ => rfl)
    (fun pre W => (pre <+: spL off cs ∧ Boxed W w1.heap.size 3 (.int .i64 (gV t pre))) ∧ Boxed W (w.heap.size + 1) 3 (.int .i64 t) ∧ Below w.heap.size w W)
    (fun _ _ _ => False)
    (Ab.and (Ab.and (ab_pure _ _ _) (ab_boxed _ _ (.inl (by omega)))) (Ab.and (ab_boxed _ _ (.inl (by omega))) (ab_below (Nat.le_refl _) (by omega))))
    (fun c => ab_false _ _)
    ⟨⟨List.nil_prefix, bO⟩, T2.t, T2.below⟩
    (fun x a' W => ∃ Bx, W0.heap.size + 7 ≤ Bx ∧ SBox W Bx x ∧ a' = { tmps := #[.agg #[.int .i64 off, .slice a n cap], .int .i64 t, .pointer (some ⟨w.heap.size, 0, none⟩), .pointer (some ⟨w.heap.size + 1, 0, none⟩), .int .i64 0, .int .i64 0, .int .i64 0, .pointer (some ⟨w1.heap.size, 0, none⟩), .pointer (some ⟨Bx, 0, none⟩), .agg #[.int .i64 off, .slice a n cap], .int .i64 t, .int .i64 0, .int .i64 0, .bool false, undef, .agg #[.int .i64 off, .slice a n cap], .func (.func 44) #[] #[.pointer (some ⟨w1.heap.size + 1, 0, none⟩)], .agg #[.int .i64 x.1, .int .i64 x.2.1, .int .i64 x.2.2], undef, undef, undef, undef, undef, undef, undef, undef, undef, undef, undef, undef, undef, undef, undef, undef, undef], defers := [] })
    (fun x a' s X Y row hs hg hr => by obtain ⟨Bx, h1, h2, h3⟩ := hs; exact ⟨Bx, h1, ab_sbox (β := Unit) x (by omega) () X Y row h2 hg hr, h3⟩)
    ?assign ?body ?done ?stop
  case assign =>
    rintro pre x W K ⟨⟨hp, bO1⟩, bt1, hB1⟩ hpre hbig hK
    dsimp only [encS]
    gi_wp2
    exact hK _ _ (KeepsBut.alloc _ _) ⟨⟨hp, bO1.alloc _⟩, bt1.alloc _, hB1.alloc (by omega) _⟩ ⟨W.heap.size, by omega, SBox.new W x, rfl⟩
  case body =>
    rintro pre x a' W ⟨⟨hp, bO1⟩, bt1, hB1⟩ ⟨Bx, hBx, bX, rfl⟩ hpre hbig
    obtain ⟨x0, x1, x2, x3, x4⟩ := hL x (mem_of_pre hpre)
    obtain ⟨g0, g1⟩ := gV_bd t t0 t1 pre (fun s hs => hL s (hp.subset hs))
    have hst : gV t (pre ++ [x]) = stG t (gV t pre) x := gV_snoc _ _ _
    have ct := bt1.cell
    have cO := bO1.cell
    have fO := bO1.frozen
    have c0 := bX.c0
    have c1 := bX.c1
    have c2 := bX.c2
    have x5 : x.2.1 ≤ 120968640 := by unfold END at x2; omega
    generalize gV t pre = g at *
    unfold stG at hst
    have HS := Lib.hid hst
    have HP := Lib.hid hpre
    clear hst hpre hbig hL hp
    by_cases h1 : x.1 ≤ t
    · by_cases h2 : t ≤ x.2.1 - 1
      · by_cases h3 : g < t + x.2.2
        · gi_wp2
          exact ⟨KeepsBut.setCell _ _ _ (fun _ _ => .inl ⟨by omega, by omega⟩), ⟨HP.out, by rw [HS.out, if_pos (by omega), if_pos (by omega), if_pos (by omega)]; exact bO1.set _⟩, bt1.other (by omega) _, hB1.setCell (p := ⟨w1.heap.size, 0, none⟩) (by show w.heap.size ≤ w1.heap.size; omega) _⟩
        · gi_wp2
          exact ⟨KeepsBut.setCell _ _ _ (fun _ _ => .inl ⟨by omega, by omega⟩), ⟨HP.out, by rw [HS.out, if_pos (by omega), if_pos (by omega), if_neg (by omega)]; exact bO1.set _⟩, bt1.other (by omega) _, hB1.setCell (p := ⟨w1.heap.size, 0, none⟩) (by show w.heap.size ≤ w1.heap.size; omega) _⟩
      · by_cases h3 : g < x.2.1 - 1 + x.2.2
        · gi_wp2
          exact ⟨KeepsBut.setCell _ _ _ (fun _ _ => .inl ⟨by omega, by omega⟩), ⟨HP.out, by rw [HS.out, if_pos (by omega), if_neg (by omega), if_pos (by omega)]; exact bO1.set _⟩, bt1.other (by omega) _, hB1.setCell (p := ⟨w1.heap.size, 0, none⟩) (by show w.heap.size ≤ w1.heap.size; omega) _⟩
        · gi_wp2
          exact ⟨KeepsBut.setCell _ _ _ (fun _ _ => .inl ⟨by omega, by omega⟩), ⟨HP.out, by rw [HS.out, if_pos (by omega), if_neg (by omega), if_neg (by omega)]; exact bO1.set _⟩, bt1.other (by omega) _, hB1.setCell (p := ⟨w1.heap.size, 0, none⟩) (by show w.heap.size ≤ w1.heap.size; omega) _⟩
    · gi_wp2
      exact ⟨KeepsBut.refl _ _, ⟨HP.out, by rw [HS.out, if_neg (by omega)]; exact bO1⟩, bt1, hB1⟩
  case done =>
    rintro W hbig ⟨⟨_, bO1⟩, bt1, hB1⟩ hK
    have cO := bO1.cell
    obtain ⟨g0, g1⟩ := gV_bd t t0 t1 _ hL
    obtain ⟨g, hg⟩ : ∃ g, gV t (spL off cs) = g := ⟨_, rfl⟩
    rw [hg] at cO g0 g1
    have HG := Lib.hid hg
    clear hg bO1
    by_cases h1 : g / 1440 ≤ 84005
    · gi_wp2
      refine ⟨by simp, .inl ⟨_, _, rfl, run_takeDeferred hK, ?_⟩⟩
      exact ⟨.tuple #[.int .i64 (g / 1440), .int .i64 0], by simp [results, Try.f22, go_sem], by rw [HG.out]; unfold dyT; rw [if_pos h1], hB1.trans (belowK_b (w := w) (Nat.le_refl _) W W0.heap.size _ _ (by omega) hK rfl rfl)⟩
    · gi_wp2
      refine ⟨by simp, .inl ⟨_, _, rfl, run_takeDeferred hK, ?_⟩⟩
      exact ⟨.tuple #[.int .i64 84005, .int .i64 0], by simp [results, Try.f22, go_sem], by rw [HG.out]; unfold dyT; rw [if_neg (by omega)], hB1.trans (belowK_b (w := w) (Nat.le_refl _) W W0.heap.size _ _ (by omega) hK rfl rfl)⟩
  case stop =>
    rintro c pre W hpre h hK
    exact h.elim
end Go.Proofs.Ytbbfkpkibakieaa
