/-
  The generator's SpoilZone: the walk. Condition: the tape's block reads as a tape, the zone's changes read and are three at most.
-/
import Derived.Test.YtbbfkpkibakieaaPrSz
namespace Go.Proofs.Ytbbfkpkibakieaa.Tp
open Go Go.RowKit Go.Lib Go.Proofs.Ytbbfkpkibakieaa

theorem chRow_cells {W : World} {B n : Nat} {a : Option Addr} {cs : List (Int × Int)} (h : ChRow W B a n cs) {x : Addr} (hx : a = some x) : ∀ k u, (cs.flatMap ccells)[k]? = some u → W.cell? (x.add k) = some u := by
  intro k u hu
  have hk : k < cs.length * 2 := by
    have := (List.getElem?_eq_some_iff.1 hu).1
    rwa [ccells_len] at this
  obtain ⟨y, hy, _, hc⟩ := h.2 (by rw [← h.1]; omega)
  rw [hx] at hy
  injection hy with hy
  subst hy
  have hi : k / 2 < cs.length := by omega
  obtain ⟨c1, c2⟩ := hc (k / 2) hi
  rw [add_field] at c2
  have hj : k = k / 2 * 2 ∨ k = k / 2 * 2 + 1 := by omega
  rcases hj with hj | hj
  · have := ccells_at cs (k / 2) 0 hi (by omega)
    rw [Nat.add_zero, ← hj, hu] at this
    rw [← hj] at c1
    rw [c1, this]; rfl
  · have := ccells_at cs (k / 2) 1 hi (by omega)
    rw [← hj, hu] at this
    rw [← hj] at c2
    rw [c2, this]; rfl

section
variable {w0 W : World} {b : Nat} {off : Int} {v0 : Value} {g n c2 : Nat} {cs : List (Int × Int)}
theorem SZ.b0 (h : SZ w0 b off v0 g n c2 cs W) : W.cell? ⟨w0.heap.size, 0, none⟩ = some (.int .i64 off) := by simp [World.cell?, h.box]
theorem SZ.b1 (h : SZ w0 b off v0 g n c2 cs W) : W.cell? ⟨w0.heap.size, 1, none⟩ = some v0 := by simp [World.cell?, h.box]
theorem SZ.fb (h : SZ w0 b off v0 g n c2 cs W) (i : Nat) : W.frozen? ⟨w0.heap.size, i, none⟩ = false := by simp [World.frozen?, h.box]
theorem SZ.r0 (h : SZ w0 b off v0 g n c2 cs W) : W.cell? ⟨w0.heap.size + 1, 0, none⟩ = some (.int .i64 0) := by simp [World.cell?, h.res]
theorem SZ.r1 (h : SZ w0 b off v0 g n c2 cs W) : W.cell? ⟨w0.heap.size + 1, 1, none⟩ = some (.slice none 0 0) := by simp [World.cell?, h.res]
theorem SZ.fr (h : SZ w0 b off v0 g n c2 cs W) (i : Nat) : W.frozen? ⟨w0.heap.size + 1, i, none⟩ = false := by simp [World.frozen?, h.res]
theorem SZ.fg (h : SZ w0 b off v0 g n c2 cs W) (i : Nat) : W.frozen? ⟨g, i, none⟩ = false := by
  rcases h.row.2 with ⟨e, _⟩ | ⟨g', cap, cur, e, _, hc, _⟩
  · simp at e
  · injection e with e1 _ _
    injection e1 with e1
    injection e1 with e1
    subst e1
    simp [World.frozen?, hc]
theorem addG (g k : Nat) : (⟨g, 0, none⟩ : Addr).add k = ⟨g, k, none⟩ := by unfold Addr.add; split <;> simp_all
theorem SZ.cg (h : SZ w0 b off v0 g n c2 cs W) (k : Nat) {u : Value} (hu : (cs.flatMap ccells)[k]? = some u) : W.cell? ⟨g, k, none⟩ = some u := by rw [← addG]; exact h.cells k u hu
/-- The three stores at the end. -/
theorem SF.fin {w0 W : World} {b g n c2 : Nat} {cs : List (Int × Int)} {off : Int} (h : SF w0 b g n cs W) (hn : n ≤ 4) :
    SpR b w0 (.returned (.agg #[.int .i64 off, .slice (some ⟨g, 0, none⟩) n c2])) (((W.setCell ⟨w0.heap.size, 1, none⟩ (.slice (some ⟨g, 0, none⟩) n c2)).setCell ⟨w0.heap.size + 1, 0, none⟩ (.int .i64 off)).setCell ⟨w0.heap.size + 1, 1, none⟩ (.slice (some ⟨g, 0, none⟩) n c2)) := by
  have F := ((h.set (p := ⟨w0.heap.size, 1, none⟩) (Nat.le_refl _) (by show w0.heap.size < _; omega) (.slice (some ⟨g, 0, none⟩) n c2)).set (p := ⟨w0.heap.size + 1, 0, none⟩) (by show _ ≤ w0.heap.size + 1; omega) (by show w0.heap.size + 1 < _; omega) (.int .i64 off)).set (p := ⟨w0.heap.size + 1, 1, none⟩) (by show _ ≤ w0.heap.size + 1; omega) (by show w0.heap.size + 1 < _; omega) (.slice (some ⟨g, 0, none⟩) n c2)
  exact ⟨off, _, n, c2, cs, rfl, hn, F.row, F.tape, F.only⟩
end

set_option maxRecDepth 100000 in
set_option maxHeartbeats 4000000 in
theorem spoil_any (b : Nat) (off : Int) (a : Option Addr) (n cap : Nat) (cs : List (Int × Int)) (hn : n ≤ 3) (hcap : a = none → cap = 0) (w : World) (h : TapeAt b w) (hr : ChRow w w.heap.size a n cs) :
    Calls Try.prog 18 #[.pointer (some ⟨b, 0, none⟩), .agg #[.int .i64 off, .slice a n cap]] w (SpR b w) := by
  have hb := h.lt
  obtain ⟨i0, hi0, hz0, hz1, hz2⟩ := info_parts infoChg
  have X0 : SZ w b off (.slice a n cap) (w.heap.size + 1 + 1) 0 0 [] (((w.alloc (.cells #[.int .i64 off, .slice a n cap] 24)).alloc (.cells #[.int .i64 0, .slice none 0 0] 24)).alloc (.cells #[] 27)) := by
    have e1 : (w.alloc (.cells #[.int .i64 off, .slice a n cap] 24)).heap.size = w.heap.size + 1 := by simp
    have e2 : ((w.alloc (.cells #[.int .i64 off, .slice a n cap] 24)).alloc (.cells #[.int .i64 0, .slice none 0 0] 24)).heap.size = w.heap.size + 2 := by simp
    refine ⟨?_, ?_, ?_, rfl, ((h.alloc _).alloc _).alloc _, (((Only.refl b w).alloc _).alloc _).alloc _, hb⟩
    · exact (Below.heap_alloc _ _ _ (by simp; omega)).trans ((Below.heap_alloc _ _ _ (by simp)).trans (World.alloc_heap_new w _))
    · refine (Below.heap_alloc _ _ _ (by simp)).trans ?_
      have := World.alloc_heap_new (w.alloc (.cells #[.int .i64 off, .slice a n cap] 24)) (.cells #[.int .i64 0, .slice none 0 0] 24)
      rwa [e1] at this
    · have := World.ownsRow_made (base := w.heap.size + 2) (e := 27) (size := 2) ((w.alloc (.cells #[.int .i64 off, .slice a n cap] 24)).alloc (.cells #[.int .i64 0, .slice none 0 0] 24)) #[] 0 (by simp) (by decide) (by simp)
      rwa [e2] at this
  have hrow := row_box (row_box (row_box hr (.cells #[.int .i64 off, .slice a n cap] 24)) (.cells #[.int .i64 0, .slice none 0 0] 24)) (.cells #[] 27)
  have hX := Lib.hid X0
  have hR := Lib.hid hrow
  clear X0 hrow
  go_enter Try.func18, Try.ntmps18
  have hn0 : a = none → n = 0 ∧ cap = 0 := by
    intro e
    refine ⟨?_, hcap e⟩
    rcases Nat.eq_zero_or_pos n with h0 | h0
    · exact h0
    · obtain ⟨x, hx, _⟩ := hr.2 h0
      rw [e] at hx; cases hx
  have hl := hr.1
  have HN := Lib.hid hn0
  clear hn0
  go_wp2_with (at_builtin; refine wpList_append_opt _ rfl _ _ 22 rfl (w.heap.size + 2) 27 i0 (.agg #[.int .i64 0, .int .i64 0]) 2 16 Try.underlying22 hi0 hz0 hz1 hz2 rfl (by decide) _ _ _ rfl hX.out.row a n cap (cs.flatMap ccells) rfl ?c0 HN.out ?c1 ?c2 ?c3 ?c4 ?c5 ?_)
  case c0 => rw [ccells_len, ← hl]
  case c1 => intro ad had; exact chRow_cells hR.out had
  case c2 => intro u hu; simp only [List.mem_flatMap, ccells] at hu; obtain ⟨c, _, hu⟩ := hu; simp at hu; rcases hu with rfl | rfl <;> rfl
  case c3 => unfold maxLen; omega
  case c4 => omega
  case c5 => simp
  intro v1 w1 hown hgrow hnil
  rcases hown.2 with ⟨e, _⟩ | ⟨g, c2, cur, rfl, hg, hc, _⟩
  · exact (hnil e).elim
  have X1 := hX.out.grown (cs6 := cs) hgrow (by simpa using hown) (by omega)
  have L1 := hown.1
  clear hown hgrow hX hR HN hc hg hnil
  go_wp2_with fail
  refine (next_any b 4 (by omega) (by omega) _ X1.tape).mono ?_
  rintro e w2 ⟨q, rfl, q0, q1, T2, O2⟩
  have X2 := X1.only' T2 O2
  clear T2 O2 X1
  have hq : q = 0 ∨ q = 1 ∨ q = 2 ∨ q = 3 := by omega
  clear q0 q1
  rcases hq with rfl | rfl | rfl | rfl
  · go_wp2_with fail
    refine (pick_any b w2.heap.size [841, -841] (by simp) (by simp) (by have := X2.g0; have := X2.lt; omega) _ (X2.alloc _).tape (two w2 841 (-841) 3)).mono ?_
    rintro e w3 ⟨o2, rfl, _, T3, O3⟩
    have X3 := (X2.alloc _).only' T3 O3
    clear T3 O3 X2
    have z0 := X3.b0
    have z1 := X3.b1
    have y0 := X3.fb 0
    have y1 := X3.fb 1
    have r0 := X3.r0
    have r1 := X3.r1
    have s0 := X3.fr 0
    have s1 := X3.fr 1
    go_wp2
    refine bodyPost_ret (v := .agg #[.int .i64 o2, .slice (some ⟨g, 0, none⟩) (n) c2]) (by simp [results, Try.results18, go_sem, r0, r1]) rfl ?_
    exact (X3.sf.set (p := ⟨w.heap.size, 0, none⟩) (Nat.le_refl _) (by show w.heap.size < _; omega) _).fin (by omega)
  · go_wp2_with fail
    refine (pick_any b w2.heap.size [-1, 120968640, 0] (by simp) (by simp) (by have := X2.g0; have := X2.lt; omega) _ (X2.alloc _).tape (tri w2 (-1) 120968640 0 3)).mono ?_
    rintro e w3 ⟨q, rfl, _, T3, O3⟩
    have X3 := (X2.alloc _).only' T3 O3
    clear T3 O3 X2
    go_wp2_with (at_builtin; refine wpList_append_own _ rfl _ _ 22 rfl (w.heap.size + 2) 27 i0 (.agg #[.int .i64 0, .int .i64 0]) 2 16 Try.underlying22 hi0 hz0 hz1 hz2 rfl (by decide) _ _ _ rfl (X3.alloc _).row ⟨w3.heap.size, 0, none⟩ 1 1 (ccells (q, 60)) rfl rfl ?c1 ?c2 ?c3 ?c4 ?c5 ?_)
    case c1 => intro i u hu; exact cellsA _ _ _ i u hu
    case c2 => intro u hu; simp [ccells] at hu; rcases hu with rfl | rfl <;> rfl
    case c3 => unfold maxLen; omega
    case c4 => omega
    case c5 => have := X3.g0; simp; omega
    intro v5 w5 hown5 hgrow5 hnil5
    rcases hown5.2 with ⟨e, _⟩ | ⟨g5, c5, cur5, rfl, _, _, _⟩
    · exact (hnil5 e).elim
    have X5 := (X3.alloc _).grown (cs6 := cs ++ [(q, 60)]) hgrow5 (by rw [List.flatMap_append]; simpa using hown5) (by simp; omega)
    clear hown5 hgrow5 hnil5
    have z0 := X5.b0
    have z1 := X5.b1
    have y0 := X5.fb 0
    have y1 := X5.fb 1
    have r0 := X5.r0
    have r1 := X5.r1
    have s0 := X5.fr 0
    have s1 := X5.fr 1
    go_wp2
    refine bodyPost_ret (v := .agg #[.int .i64 off, .slice (some ⟨g5, 0, none⟩) (n + 1) c5]) (by simp [results, Try.results18, go_sem, r0, r1]) rfl ?_
    exact X5.sf.fin (by omega)
  · rcases cs with _ | ⟨a1, _ | ⟨a2, _ | ⟨a3, _ | ⟨a4, cs⟩⟩⟩⟩
    · obtain rfl : n = 0 := by simpa using hl.symm
      have z0 := X2.b0
      have z1 := X2.b1
      have y0 := X2.fb 0
      have y1 := X2.fb 1
      have r0 := X2.r0
      have r1 := X2.r1
      have s0 := X2.fr 0
      have s1 := X2.fr 1
      go_wp2
      refine bodyPost_ret (v := .agg #[.int .i64 off, .slice (some ⟨g, 0, none⟩) (0) c2]) (by simp [results, Try.results18, go_sem, r0, r1]) rfl ?_
      exact X2.sf.fin (by omega)
    · obtain rfl : n = 1 := by simpa using hl.symm
      have k0 : w2.cell? ⟨g, 0, none⟩ = some (.int .i64 a1.1) := X2.cg 0 rfl
      have k1 : w2.cell? ⟨g, 1, none⟩ = some (.int .i64 a1.2) := X2.cg 1 rfl
      go_wp2_with (at_builtin; refine wpList_append_own _ rfl _ _ 22 rfl (w.heap.size + 2) 27 i0 (.agg #[.int .i64 0, .int .i64 0]) 2 16 Try.underlying22 hi0 hz0 hz1 hz2 rfl (by decide) _ _ _ rfl (X2.alloc _).row ⟨w2.heap.size, 0, none⟩ 1 1 (ccells a1) rfl rfl ?c1 ?c2 ?c3 ?c4 ?c5 ?_)
      case c1 => intro i u hu; exact cellsA _ _ _ i u hu
      case c2 => intro u hu; simp [ccells] at hu; rcases hu with rfl | rfl <;> rfl
      case c3 => unfold maxLen; omega
      case c4 => omega
      case c5 => have := X2.g0; simp; omega
      intro v5 w5 hown5 hgrow5 hnil5
      rcases hown5.2 with ⟨e, _⟩ | ⟨g5, c5, cur5, rfl, _, _, _⟩
      · exact (hnil5 e).elim
      have X5 := (X2.alloc _).grown (cs6 := [a1] ++ [a1]) hgrow5 (by rw [List.flatMap_append]; simpa using hown5) (by simp)
      clear hown5 hgrow5 hnil5
      have z0 := X5.b0
      have z1 := X5.b1
      have y0 := X5.fb 0
      have y1 := X5.fb 1
      have r0 := X5.r0
      have r1 := X5.r1
      have s0 := X5.fr 0
      have s1 := X5.fr 1
      go_wp2
      refine bodyPost_ret (v := .agg #[.int .i64 off, .slice (some ⟨g5, 0, none⟩) (1 + 1) c5]) (by simp [results, Try.results18, go_sem, r0, r1]) rfl ?_
      exact X5.sf.fin (by omega)
    · obtain rfl : n = 2 := by simpa using hl.symm
      have k0 : w2.cell? ⟨g, 2, none⟩ = some (.int .i64 a2.1) := X2.cg 2 rfl
      have k1 : w2.cell? ⟨g, 3, none⟩ = some (.int .i64 a2.2) := X2.cg 3 rfl
      go_wp2_with (at_builtin; refine wpList_append_own _ rfl _ _ 22 rfl (w.heap.size + 2) 27 i0 (.agg #[.int .i64 0, .int .i64 0]) 2 16 Try.underlying22 hi0 hz0 hz1 hz2 rfl (by decide) _ _ _ rfl (X2.alloc _).row ⟨w2.heap.size, 0, none⟩ 1 1 (ccells a2) rfl rfl ?c1 ?c2 ?c3 ?c4 ?c5 ?_)
      case c1 => intro i u hu; exact cellsA _ _ _ i u hu
      case c2 => intro u hu; simp [ccells] at hu; rcases hu with rfl | rfl <;> rfl
      case c3 => unfold maxLen; omega
      case c4 => omega
      case c5 => have := X2.g0; simp; omega
      intro v5 w5 hown5 hgrow5 hnil5
      rcases hown5.2 with ⟨e, _⟩ | ⟨g5, c5, cur5, rfl, _, _, _⟩
      · exact (hnil5 e).elim
      have X5 := (X2.alloc _).grown (cs6 := [a1, a2] ++ [a2]) hgrow5 (by rw [List.flatMap_append]; simpa using hown5) (by simp)
      clear hown5 hgrow5 hnil5
      have z0 := X5.b0
      have z1 := X5.b1
      have y0 := X5.fb 0
      have y1 := X5.fb 1
      have r0 := X5.r0
      have r1 := X5.r1
      have s0 := X5.fr 0
      have s1 := X5.fr 1
      go_wp2
      refine bodyPost_ret (v := .agg #[.int .i64 off, .slice (some ⟨g5, 0, none⟩) (2 + 1) c5]) (by simp [results, Try.results18, go_sem, r0, r1]) rfl ?_
      exact X5.sf.fin (by omega)
    · obtain rfl : n = 3 := by simpa using hl.symm
      have k0 : w2.cell? ⟨g, 4, none⟩ = some (.int .i64 a3.1) := X2.cg 4 rfl
      have k1 : w2.cell? ⟨g, 5, none⟩ = some (.int .i64 a3.2) := X2.cg 5 rfl
      go_wp2_with (at_builtin; refine wpList_append_own _ rfl _ _ 22 rfl (w.heap.size + 2) 27 i0 (.agg #[.int .i64 0, .int .i64 0]) 2 16 Try.underlying22 hi0 hz0 hz1 hz2 rfl (by decide) _ _ _ rfl (X2.alloc _).row ⟨w2.heap.size, 0, none⟩ 1 1 (ccells a3) rfl rfl ?c1 ?c2 ?c3 ?c4 ?c5 ?_)
      case c1 => intro i u hu; exact cellsA _ _ _ i u hu
      case c2 => intro u hu; simp [ccells] at hu; rcases hu with rfl | rfl <;> rfl
      case c3 => unfold maxLen; omega
      case c4 => omega
      case c5 => have := X2.g0; simp; omega
      intro v5 w5 hown5 hgrow5 hnil5
      rcases hown5.2 with ⟨e, _⟩ | ⟨g5, c5, cur5, rfl, _, _, _⟩
      · exact (hnil5 e).elim
      have X5 := (X2.alloc _).grown (cs6 := [a1, a2, a3] ++ [a3]) hgrow5 (by rw [List.flatMap_append]; simpa using hown5) (by simp)
      clear hown5 hgrow5 hnil5
      have z0 := X5.b0
      have z1 := X5.b1
      have y0 := X5.fb 0
      have y1 := X5.fb 1
      have r0 := X5.r0
      have r1 := X5.r1
      have s0 := X5.fr 0
      have s1 := X5.fr 1
      go_wp2
      refine bodyPost_ret (v := .agg #[.int .i64 off, .slice (some ⟨g5, 0, none⟩) (3 + 1) c5]) (by simp [results, Try.results18, go_sem, r0, r1]) rfl ?_
      exact X5.sf.fin (by omega)
    · simp at hl; omega
  · rcases cs with _ | ⟨a1, r⟩
    · obtain rfl : n = 0 := by simpa using hl.symm
      have z0 := X2.b0
      have z1 := X2.b1
      have y0 := X2.fb 0
      have y1 := X2.fb 1
      have r0 := X2.r0
      have r1 := X2.r1
      have s0 := X2.fr 0
      have s1 := X2.fr 1
      go_wp2
      refine bodyPost_ret (v := .agg #[.int .i64 off, .slice (some ⟨g, 0, none⟩) (0) c2]) (by simp [results, Try.results18, go_sem, r0, r1]) rfl ?_
      exact X2.sf.fin (by omega)
    · obtain rfl : n = r.length + 1 := by simpa using hl.symm
      have k1 : w2.cell? ⟨g, 1, none⟩ = some (.int .i64 a1.2) := X2.cg 1 rfl
      have kf := X2.fg 1
      have hlt := X2.lt
      have hge := X2.g0.1
      have hh0 : g ≠ w.heap.size := by omega
      have hh1 : g ≠ w.heap.size + 1 := by omega
      generalize hk : r.length = k at *
      have z0 := X2.b0
      have z1 := X2.b1
      have y0 := X2.fb 0
      have y1 := X2.fb 1
      have r0 := X2.r0
      have r1 := X2.r1
      have s0 := X2.fr 0
      have s1 := X2.fr 1
      go_wp2
      refine bodyPost_ret (v := .agg #[.int .i64 off, .slice (some ⟨g, 0, none⟩) (k + 1) c2]) (by simp [results, Try.results18, go_sem, r0, r1]) rfl ?_
      exact (X2.sf.first 1000).fin (by omega)
end Go.Proofs.Ytbbfkpkibakieaa.Tp
