/-
  Layer 6 (timeline): Diff, whole; the generator's Changes: a list of its own; the law's day: a day near those of the lists. Conditions: the list reads as changes; the tape's block reads as a tape.
-/
import Derived.Test.YtdpgmjmmnjbbiaaPrUn
namespace Go.Proofs.Ytdpgmjmmnjbbiaa.Tl
open Go Go.RowKit Go.Lib Go.Sort Go.Shelf Go.Proofs Go.Proofs.Ytdpgmjmmnjbbiaa Go.Proofs.Ytdpgmjmmnjbbiaa.Tp
set_option linter.unusedVariables false

set_option maxRecDepth 100000 in
set_option maxHeartbeats 2000000 in
theorem diff_any (a : Option Addr) (n cap : Nat) (cs : List Chg) (ka kb fr to : Int) (w : World) (h : Lst w a n cap cs) :
    Calls Try.prog 21 #[.slice a n cap, .int .i64 ka, .int .i64 kb, .int .i64 fr, .int .i64 to] w (DifR cs ka kb fr to w) := by
  by_cases hok : chkE cs fr to = 0
  · exact diff_ok a n cap cs ka kb fr to w h hok
  · have CK := Lib.hid (chk_any a n cap cs fr to w h)
    have HE : Hid (∀ w' : World, Below w.heap.size w w' → DifR cs ka kb fr to w (.returned (.tuple #[.slice none 0 0, .int .i64 (chkE cs fr to)])) w') := Lib.hid fun w' hb => dif_bad hok rfl hb
    have t0 : (chkE cs fr to != 0) = true := by simpa using hok
    clear h hok
    generalize chkE cs fr to = c at *
    go_enter Try.func21, Try.ntmps21
    go_wp2_with fail
    refine CK.out.mono ?_
    rintro e w1 ⟨rfl, b1⟩
    have B1 := Lib.hid b1
    clear b1 CK
    go_wp2_with fail
    go_ret2
    exact HE.out _ B1.out

theorem two (w : World) (x0 x1 : Int) (t : TypeId) : ∀ i, i < ([x0, x1] : List Int).length → (w.alloc (.cells #[.int .i64 x0, .int .i64 x1] t)).cell? ⟨w.heap.size, i, none⟩ = some (.int .i64 (([x0, x1] : List Int).getD i 0)) := by
  intro i hi
  rcases i with _ | _ | i
  · go_simp
  · go_simp
  · simp at hi; omega
/-- A change of the generator; valid unless it is wild. -/
def GenC (wild : Bool) (c : Chg) : Prop := wild = false → 0 ≤ c.fr ∧ c.fr ≤ 84005 ∧ 1 ≤ c.kn ∧ c.kn ≤ 6 ∧ 0 ≤ c.va ∧ c.va ≤ 3 ∧ (c.de = true → c.va = 0)
theorem GenC.err {c : Chg} (h : GenC false c) : errC c = 0 := by
  obtain ⟨a1, a2, a3, a4, a5, a6, a7⟩ := h rfl
  unfold errC
  rw [if_pos ⟨a1, a2, by omega, by omega, by omega, by omega⟩]
  by_cases hd : c.de = true
  · rw [if_neg (fun h => h.2 (a7 hd))]
  · rw [if_neg (fun h => hd h.1)]
/-- A box of four cells. -/
structure Bx (W : World) (s : Nat) (c : Chg) : Prop where
  at4 : At4 W ⟨s, 0, none⟩ c
  free : ∀ j, j < 4 → W.frozen? ⟨s, j, none⟩ = false
theorem Bx.lt {W : World} {s : Nat} {c : Chg} (h : Bx W s c) : s < W.heap.size := h.at4.lt
theorem Bx.keep {W W' : World} {s : Nat} {c : Chg} (h : Bx W s c) (hb : W'.heap[s]? = W.heap[s]?) : Bx W' s c := ⟨h.at4.block hb, fun j hj => (World.frozen?_of_block (a := ⟨s, j, none⟩) hb).trans (h.free j hj)⟩
theorem Bx.only {W W' : World} {s b : Nat} {c : Chg} (h : Bx W s c) (ho : Only b W W') (hs : s ≠ b) : Bx W' s c := h.keep (ho.block s h.lt hs)
theorem Bx.alloc {W : World} {s : Nat} {c : Chg} (h : Bx W s c) (o : Obj) : Bx (W.alloc o) s c := h.keep (Below.heap_alloc W o _ h.lt)
theorem Bx.new (W : World) (c : Chg) (t : TypeId) : Bx (W.alloc (.cells #[.int .i64 c.fr, .int .i64 c.kn, .int .i64 c.va, .bool c.de] t)) W.heap.size c :=
  ⟨⟨by go_simp, by go_simp, by go_simp, by go_simp⟩, fun j hj => World.frozen?_alloc_at _ _ _ _ rfl⟩
theorem oth (W : World) (s i j : Nat) (v : Value) (h : i ≠ j) : (W.setCell ⟨s, i, none⟩ v).cell? ⟨s, j, none⟩ = W.cell? ⟨s, j, none⟩ := World.cell?_setCell_other _ _ _ _ (fun e => h (by injection e))
theorem Bx.fr {W : World} {s : Nat} {c : Chg} (h : Bx W s c) (x : Int) : Bx (W.setCell ⟨s, 0, none⟩ (.int .i64 x)) s { c with fr := x } :=
  ⟨⟨World.cell?_setCell_same _ _ _ h.at4.1, (oth W s 0 1 _ (by decide)).trans h.at4.2.1, (oth W s 0 2 _ (by decide)).trans h.at4.2.2.1, (oth W s 0 3 _ (by decide)).trans h.at4.2.2.2⟩, fun j hj => by rw [World.frozen?_setCell]; exact h.free j hj⟩
theorem Bx.kn {W : World} {s : Nat} {c : Chg} (h : Bx W s c) (x : Int) : Bx (W.setCell ⟨s, 1, none⟩ (.int .i64 x)) s { c with kn := x } :=
  ⟨⟨(oth W s 1 0 _ (by decide)).trans h.at4.1, World.cell?_setCell_same _ _ _ h.at4.2.1, (oth W s 1 2 _ (by decide)).trans h.at4.2.2.1, (oth W s 1 3 _ (by decide)).trans h.at4.2.2.2⟩, fun j hj => by rw [World.frozen?_setCell]; exact h.free j hj⟩
theorem Bx.va {W : World} {s : Nat} {c : Chg} (h : Bx W s c) (x : Int) : Bx (W.setCell ⟨s, 2, none⟩ (.int .i64 x)) s { c with va := x } :=
  ⟨⟨(oth W s 2 0 _ (by decide)).trans h.at4.1, (oth W s 2 1 _ (by decide)).trans h.at4.2.1, World.cell?_setCell_same _ _ _ h.at4.2.2.1, (oth W s 2 3 _ (by decide)).trans h.at4.2.2.2⟩, fun j hj => by rw [World.frozen?_setCell]; exact h.free j hj⟩
theorem Bx.de {W : World} {s : Nat} {c : Chg} (h : Bx W s c) (x : Bool) : Bx (W.setCell ⟨s, 3, none⟩ (.bool x)) s { c with de := x } :=
  ⟨⟨(oth W s 3 0 _ (by decide)).trans h.at4.1, (oth W s 3 1 _ (by decide)).trans h.at4.2.1, (oth W s 3 2 _ (by decide)).trans h.at4.2.2.1, World.cell?_setCell_same _ _ _ h.at4.2.2.2⟩, fun j hj => by rw [World.frozen?_setCell]; exact h.free j hj⟩
/-- The list while it is made: the tape, the row. -/
structure GenI (w0 : World) (b : Nat) (v : Value) (cs : List Chg) (W : World) : Prop where
  tape : TapeAt b W
  only : Only b w0 W
  row : W.ownsRow w0.heap.size 42 4 v cs.length (fl cs)
  lt : b < w0.heap.size
theorem row_keep {W W' : World} {base n : Nat} {v : Value} {xs : List Value} (h : W.ownsRow base 42 4 v n xs) (hb : ∀ g, v.ownBlock = some g → W'.heap[g]? = W.heap[g]?) : W'.ownsRow base 42 4 v n xs := by
  refine ⟨h.1, ?_⟩
  rcases h.2 with h0 | ⟨g, cap, cur, rfl, h1, h2, h3⟩
  · exact .inl h0
  · exact .inr ⟨g, cap, cur, rfl, h1, (hb g rfl).trans h2, h3⟩
theorem GenI.step {w0 W W' : World} {b : Nat} {v : Value} {cs : List Chg} (h : GenI w0 b v cs W) (hT : TapeAt b W') (hO : Only b W W') : GenI w0 b v cs W' :=
  ⟨hT, h.only.trans hO, row_keep h.row fun g hg => hO.block g (h.row.lt g hg).2 (by have := (h.row.lt g hg).1; have := h.lt; omega), h.lt⟩
theorem GenI.alloc {w0 W : World} {b : Nat} {v : Value} {cs : List Chg} (h : GenI w0 b v cs W) (o : Obj) : GenI w0 b v cs (W.alloc o) :=
  ⟨h.tape.alloc o, h.only.alloc o, row_keep h.row fun g hg => Below.heap_alloc W o g (h.row.lt g hg).2, h.lt⟩
theorem GenI.set {w0 W : World} {b s : Nat} {v : Value} {cs : List Chg} (h : GenI w0 b v cs W) (hs : w0.heap.size ≤ s) (hn : ∀ g, v.ownBlock = some g → g ≠ s) (j : Nat) (x : Value) : GenI w0 b v cs (W.setCell ⟨s, j, none⟩ x) :=
  ⟨h.tape.far (by show b < s; have := h.lt; omega) x, h.only.setCell (.inr hs) x, row_keep h.row fun g hg => Below.heap_setCell W _ x g (fun e => hn g hg e), h.lt⟩
theorem GenI.grown {w0 W W' : World} {b : Nat} {v v' : Value} {cs : List Chg} {c : Chg} (h : GenI w0 b v cs W) (ho : W'.ownsRow w0.heap.size 42 4 v' (cs.length + 1) (fl cs ++ [.int .i64 c.fr, .int .i64 c.kn, .int .i64 c.va, .bool c.de])) (hg : W.grownBy W' v.ownBlock) : GenI w0 b v' (cs ++ [c]) W' := by
  have hlt := h.lt
  have key : ∀ k, k < W.heap.size → k < w0.heap.size → W'.heap[k]? = W.heap[k]? := fun k hk hk2 => hg.block k hk (fun e => by have := (h.row.lt k e.symm).1; omega)
  refine ⟨?_, ?_, by rw [List.length_append, fl_app]; simpa [fl, encC] using ho, hlt⟩
  · obtain ⟨a, len, cap, zs, k, t1, t2, t3, t4, t5, t6⟩ := h.tape
    have fb : ∀ q : Addr, q.block ≤ b → ∀ u, W.cell? q = some u → W'.cell? q = some u := fun q hq u hu =>
      (World.cell?_of_block (key q.block (World.block_lt_of_cell? W q hu) (by omega))).trans hu
    refine ⟨a, len, cap, zs, k, fb _ (Nat.le_refl _) _ t1, fb _ (Nat.le_refl _) _ t2, (World.frozen?_of_block (key b (World.block_lt_of_cell? W _ t2) (by omega))).trans t3, t4, t5, ?_⟩
    rcases t6 with t6 | ⟨x, ha, hx, hc⟩
    · exact .inl t6
    · exact .inr ⟨x, ha, hx, fun i hi => ⟨fb _ (by rw [add_block]; omega) _ (hc i hi).1, (hc i hi).2⟩⟩
  · exact ⟨hg.os.trans h.only.os, hg.tape.trans h.only.tape, hg.output.trans h.only.output, Nat.le_trans h.only.size hg.size, fun k hk hn =>
      (key k (Nat.lt_of_lt_of_le hk h.only.size) hk).trans (h.only.block k hk hn)⟩
def GenR (b n : Nat) (wild : Bool) (w : World) (e : Ending) (w' : World) : Prop := ∃ a cap cs, e = .returned (.slice a (List.length cs) cap) ∧ OwnA cs w w' a cap ∧ cs.length ≤ n ∧ (∀ c ∈ cs, GenC wild c) ∧ TapeAt b w' ∧ Only b w w'
theorem ownA_of {w0 W : World} {v : Value} {l : List Chg} (h : W.ownsRow w0.heap.size 42 4 v l.length (fl l)) : ∃ a cap, v = .slice a l.length cap ∧ OwnA l w0 W a cap := by
  rcases h.2 with ⟨rfl, h0⟩ | ⟨g, cap, cur, rfl, h1, h2, h3, _⟩
  · exact ⟨none, 0, by rw [h0], .inl ⟨rfl, List.length_eq_zero_iff.1 h0, rfl⟩⟩
  · obtain ⟨r1, r2, r3, r4⟩ := own_row h rfl
    exact ⟨_, cap, rfl, .inr ⟨g, rfl, r1, r2, r3, r4⟩⟩

set_option maxRecDepth 100000 in
set_option maxHeartbeats 8000000 in
theorem changes_any (b n : Nat) (wild : Bool) (hn : n ≤ 100) (w : World) (h : TapeAt b w) :
    Calls Try.prog 9 #[.pointer (some ⟨b, 0, none⟩), .int .i64 n, .bool wild] w (GenR b n wild w) := by
  obtain ⟨i0, hi0, hz0, hz1, hz2⟩ := info4
  have HQ := Lib.hid (And.intro hi0 (And.intro hz0 (And.intro hz1 hz2)))
  have hlt := h.lt
  go_enter Try.func9, Try.ntmps9
  go_wp2_with fail
  refine (next_any b ((n : Int) + 1) (by omega) (by omega) _ h).mono ?_
  rintro e w1 ⟨m, rfl, m0, m1, T1, O1⟩
  obtain ⟨m, rfl⟩ := Int.eq_ofNat_of_zero_le m0
  have HI0 := Lib.hid (show GenI w b (.slice none 0 0) [] w1 from ⟨T1, O1, World.ownsRow_nil _ _ _ _, hlt⟩)
  clear T1 O1 h m0 hi0 hz0 hz1 hz2
  go_wp2_with fail
  go_loopw [7, 8] (fun v z wr => ∃ (i : Nat) (cs : List Chg), z = .int .i64 i ∧ cs.length + i ≤ n ∧ Hid (GenI w b v cs wr) ∧ Hid (∀ c ∈ cs, GenC wild c)) (fun _ z _ => (intOf z).toNat)
  case atStart => exact ⟨m, [], rfl, by simp; omega, HI0, Lib.hid (by simp)⟩
  case round =>
    clear HI0
    obtain ⟨i, cs, rfl, hle, HI, HC⟩ := hrel
    by_cases hpos : 0 < i
    · have t0 : decide ((0 : Int) < (i : Int)) = true := decide_eq_true (by omega)
      obtain ⟨I, hI⟩ : ∃ I, I = i - 1 := ⟨_, rfl⟩
      have wi : IntKind.i64.wrap ((i : Int) - 1) = (I : Int) := by rw [IntKind.wrap_i64]; omega
      have wi2 : (i : Int) - 1 = (I : Int) := by omega
      have hI2 : cs.length + 1 + I ≤ n := by omega
      have hI3 : I < i := by omega
      clear hI
      go_wp2_with fail
      refine (next_any b 6 (by omega) (by omega) _ HI.out.tape).mono ?_
      rintro e w2 ⟨F, rfl, F0, F1, T2, O2⟩
      have HI2 := Lib.hid (HI.out.step T2 O2)
      clear T2 O2 HI
      have wf : IntKind.i64.wrap (F * 5) = F * 5 := by rw [IntKind.wrap_i64]; omega
      have wf2 : IntKind.i64.wrap (20454 + F * 5) = 20454 + F * 5 := by rw [IntKind.wrap_i64]; omega
      go_wp2_with fail
      refine (next_any b 6 (by omega) (by omega) _ HI2.out.tape).mono ?_
      rintro e w3 ⟨K, rfl, K0, K1, T3, O3⟩
      have HI3 := Lib.hid (HI2.out.step T3 O3)
      clear T3 O3 HI2
      have wk : IntKind.i64.wrap (1 + K) = 1 + K := by rw [IntKind.wrap_i64]; omega
      go_wp2_with fail
      refine (next_any b 4 (by omega) (by omega) _ HI3.out.tape).mono ?_
      rintro e w4 ⟨V, rfl, V0, V1, T4, O4⟩
      have HI4 := Lib.hid (HI3.out.step T4 O4)
      clear T4 O4 HI3
      have HI5 := Lib.hid (HI4.out.alloc (.cells #[.int .i64 (20454 + F * 5), .int .i64 (1 + K), .int .i64 V, .bool false] 42))
      have X5 := Lib.hid (Bx.new w4 ⟨20454 + F * 5, 1 + K, V, false⟩ 42)
      have SB : w.heap.size ≤ w4.heap.size := HI4.out.only.size
      have sb : w4.heap.size ≠ b := by omega
      have NE : Hid (∀ g, Value.ownBlock u7 = some g → g ≠ w4.heap.size) := Lib.hid fun g hg => by have := (HI4.out.row.lt g hg).2; omega
      have GC := Lib.hid (show GenC false ⟨20454 + F * 5, 1 + K, V, false⟩ from fun _ => ⟨by show 0 ≤ 20454 + F * 5; omega, by show 20454 + F * 5 ≤ 84005; omega, by show 1 ≤ 1 + K; omega, by show 1 + K ≤ 6; omega, V0, by show V ≤ 3; omega, fun h => by cases h⟩)
      have wf3 := wf2
      clear HI4 wf wf2 wk
      generalize 20454 + F * 5 = fr at *
      generalize 1 + K = kn at *
      go_wp2_with fail
      refine (next_any b 4 (by omega) (by omega) _ HI5.out.tape).mono ?_
      rintro e w6 ⟨Q, rfl, Q0, Q1, T6, O6⟩
      have HI6 := Lib.hid (HI5.out.step T6 O6)
      have X6 := Lib.hid (X5.out.only O6 sb)
      clear T6 O6 HI5 X5
      by_cases q3 : Q = 3
      · subst q3
        obtain ⟨_, _, x2, x3⟩ := X6.out.at4
        have xf2 := X6.out.free 2 (by omega)
        have xf3 := X6.out.free 3 (by omega)
        simp only at x2 x3
        have HI6b := Lib.hid ((HI6.out.set SB NE.out 2 (.int .i64 0)).set SB NE.out 3 (.bool true))
        have X6b := Lib.hid ((X6.out.va 0).de true)
        have GD := Lib.hid (show GenC false ⟨fr, kn, 0, true⟩ from fun _ => ⟨(GC.out rfl).1, (GC.out rfl).2.1, (GC.out rfl).2.2.1, (GC.out rfl).2.2.2.1, Int.le_refl 0, (by show (0 : Int) ≤ 3; decide), fun _ => rfl⟩)
        clear HI6 X6
        go_wp2_with fail
        refine (next_any b 12 (by omega) (by omega) _ HI6b.out.tape).mono ?_
        rintro e w7 ⟨R, rfl, R0, R1, T7, O7⟩
        have HI7 := Lib.hid (HI6b.out.step T7 O7)
        have X7 := Lib.hid (X6b.out.only O7 sb)
        clear T7 O7 HI6b X6b
        by_cases r10 : R = 10
        · subst r10
          have HI7a := Lib.hid (HI7.out.alloc (.cells #[.int .i64 0, .int .i64 84005] 3))
          have X7a := Lib.hid (X7.out.alloc (.cells #[.int .i64 0, .int .i64 84005] 3))
          have sn : w7.heap.size ≠ b := by have := HI7.out.tape.lt; omega
          go_wp2_with fail
          refine (pick_any b w7.heap.size [0, 84005] (by simp) (by simp) sn _ HI7a.out.tape (two w7 0 84005 3)).mono ?_
          rintro e w8 ⟨P, rfl, PM, T8, O8⟩
          have HI8 := Lib.hid (HI7a.out.step T8 O8)
          have X8 := Lib.hid (X7a.out.only O8 sb)
          have HPM : 0 ≤ P ∧ P ≤ 84005 := by simp at PM; omega
          clear T8 O8 HI7 X7 HI7a X7a PM
          obtain ⟨x0, _, _, _⟩ := X8.out.at4
          have xf := X8.out.free 0 (by omega)
          simp only at x0
          have HI8b := Lib.hid (HI8.out.set SB NE.out 0 (.int .i64 P))
          have X8b := Lib.hid (X8.out.fr P)
          clear HI8 X8
          obtain ⟨y0, y1, y2, y3⟩ := X8b.out.at4
          have HI9 := Lib.hid (HI8b.out.alloc (.cells #[.int .i64 P, .int .i64 kn, .int .i64 0, .bool true] 42))
          simp only at y0 y1 y2 y3
          go_upto_region 14 with fail
          generalize hwA : w8.setCell ⟨w4.heap.size, 0, none⟩ (.int .i64 P) = wA at *
          clear hwA
          go_wp2_with (at_builtin; refine wpList_append_own _ rfl _ _ 23 rfl w.heap.size 42 i0 (.agg #[.int .i64 0, .int .i64 0, .int .i64 0, .bool false]) 4 32 Try.underlying23 HQ.out.1 HQ.out.2.1 HQ.out.2.2.1 HQ.out.2.2.2 rfl (by decide) _ _ _ rfl HI9.out.row ⟨wA.heap.size, 0, none⟩ 1 1 [.int .i64 P, .int .i64 kn, .int .i64 0, .bool true] rfl rfl ?m1_1 ?m1_2 ?m1_3 ?m1_4 ?m1_5 ?_)
          case m1_1 =>
            intro j x hx
            rcases j with _ | _ | _ | _ | j
            · have e : x = .int .i64 P := by simpa using hx.symm
              subst e; go_simp
            · have e : x = .int .i64 kn := by simpa using hx.symm
              subst e; go_simp
            · have e : x = .int .i64 0 := by simpa using hx.symm
              subst e; go_simp
            · have e : x = .bool true := by simpa using hx.symm
              subst e; go_simp
            · simp at hx
          case m1_2 => intro x hx; simp at hx; rcases hx with rfl | rfl | rfl | rfl <;> rfl
          case m1_3 => unfold maxLen; omega
          case m1_4 => omega
          case m1_5 => exact HI9.out.only.size
          intro v9 w9 hown hgrow _
          have HIa := Lib.hid (HI9.out.grown (c := ⟨P, kn, 0, true⟩) hown hgrow)
          have GCa : Hid (∀ c ∈ cs ++ [(⟨P, kn, 0, true⟩ : Chg)], GenC wild c) := Lib.hid fun c hc => by
            rcases List.mem_append.1 hc with h1 | h1
            · exact HC.out c h1
            · rw [List.mem_singleton] at h1; subst h1; have g := GD.out rfl; exact fun _ => ⟨HPM.1, HPM.2, g.2.2.1, g.2.2.2.1, g.2.2.2.2.1, g.2.2.2.2.2.1, g.2.2.2.2.2.2⟩
          clear hown hgrow HI9
          go_wp2_with fail
          go_roundw
          case rel => exact ⟨I, _, by go_num, by simp; omega, HIa, GCa⟩
          case measure => simp [intOf]; omega
        · have tr : (R == 10) = false := by simpa using r10
          by_cases r11 : R = 11
          · subst r11
            clear tr
            cases wild with
            | false =>
              obtain ⟨y0, y1, y2, y3⟩ := X7.out.at4
              have HI9 := Lib.hid (HI7.out.alloc (.cells #[.int .i64 fr, .int .i64 kn, .int .i64 0, .bool true] 42))
              simp only at y0 y1 y2 y3
              go_upto_region 14 with fail
              generalize hwA : w7 = wA at *
              clear hwA
              go_wp2_with (at_builtin; refine wpList_append_own _ rfl _ _ 23 rfl w.heap.size 42 i0 (.agg #[.int .i64 0, .int .i64 0, .int .i64 0, .bool false]) 4 32 Try.underlying23 HQ.out.1 HQ.out.2.1 HQ.out.2.2.1 HQ.out.2.2.2 rfl (by decide) _ _ _ rfl HI9.out.row ⟨wA.heap.size, 0, none⟩ 1 1 [.int .i64 fr, .int .i64 kn, .int .i64 0, .bool true] rfl rfl ?m2_1 ?m2_2 ?m2_3 ?m2_4 ?m2_5 ?_)
              case m2_1 =>
                intro j x hx
                rcases j with _ | _ | _ | _ | j
                · have e : x = .int .i64 fr := by simpa using hx.symm
                  subst e; go_simp
                · have e : x = .int .i64 kn := by simpa using hx.symm
                  subst e; go_simp
                · have e : x = .int .i64 0 := by simpa using hx.symm
                  subst e; go_simp
                · have e : x = .bool true := by simpa using hx.symm
                  subst e; go_simp
                · simp at hx
              case m2_2 => intro x hx; simp at hx; rcases hx with rfl | rfl | rfl | rfl <;> rfl
              case m2_3 => unfold maxLen; omega
              case m2_4 => omega
              case m2_5 => exact HI9.out.only.size
              intro v9 w9 hown hgrow _
              have HIa := Lib.hid (HI9.out.grown (c := ⟨fr, kn, 0, true⟩) hown hgrow)
              have GCa : Hid (∀ c ∈ cs ++ [(⟨fr, kn, 0, true⟩ : Chg)], GenC false c) := Lib.hid fun c hc => by
                rcases List.mem_append.1 hc with h1 | h1
                · exact HC.out c h1
                · rw [List.mem_singleton] at h1; subst h1; exact GD.out
              clear hown hgrow HI9
              go_wp2_with fail
              go_roundw
              case rel => exact ⟨I, _, by go_num, by simp; omega, HIa, GCa⟩
              case measure => simp [intOf]; omega
            | true =>
              have HI7a := Lib.hid (HI7.out.alloc (.cells #[.int .i64 (-1), .int .i64 5, .int .i64 84006] 3))
              have X7a := Lib.hid (X7.out.alloc (.cells #[.int .i64 (-1), .int .i64 5, .int .i64 84006] 3))
              have sn : w7.heap.size ≠ b := by have := HI7.out.tape.lt; omega
              go_wp2_with fail
              refine (pick_any b w7.heap.size [-1, 5, 84006] (by simp) (by simp) sn _ HI7a.out.tape (three w7 (-1) 5 84006 3)).mono ?_
              rintro e w8 ⟨P, rfl, _, T8, O8⟩
              have HI8 := Lib.hid (HI7a.out.step T8 O8)
              have X8 := Lib.hid (X7a.out.only O8 sb)
              have HI8a := Lib.hid (HI8.out.alloc (.cells #[.int .i64 (-1), .int .i64 3] 3))
              have X8a := Lib.hid (X8.out.alloc (.cells #[.int .i64 (-1), .int .i64 3] 3))
              have sn2 : w8.heap.size ≠ b := by have := HI8.out.tape.lt; omega
              clear T8 O8 HI7 X7 HI7a X7a
              go_wp2_with fail
              refine (pick_any b w8.heap.size [-1, 3] (by simp) (by simp) sn2 _ HI8a.out.tape (two w8 (-1) 3 3)).mono ?_
              rintro e w9' ⟨P2, rfl, _, T9, O9⟩
              have HI9a := Lib.hid (HI8a.out.step T9 O9)
              have X9a := Lib.hid (X8a.out.only O9 sb)
              clear T9 O9 HI8 X8 HI8a X8a
              obtain ⟨x0, x1, _, _⟩ := X9a.out.at4
              have xf := X9a.out.free 0 (by omega)
              have xf1 := X9a.out.free 1 (by omega)
              simp only at x0 x1
              have HI9b := Lib.hid ((HI9a.out.set SB NE.out 0 (.int .i64 P)).set SB NE.out 1 (.int .i64 P2))
              have X9b := Lib.hid ((X9a.out.fr P).kn P2)
              clear HI9a X9a
              obtain ⟨y0, y1, y2, y3⟩ := X9b.out.at4
              have HI9 := Lib.hid (HI9b.out.alloc (.cells #[.int .i64 P, .int .i64 P2, .int .i64 0, .bool true] 42))
              simp only at y0 y1 y2 y3
              go_upto_region 14 with fail
              generalize hwA : (w9'.setCell ⟨w4.heap.size, 0, none⟩ (.int .i64 P)).setCell ⟨w4.heap.size, 1, none⟩ (.int .i64 P2) = wA at *
              clear hwA
              go_wp2_with (at_builtin; refine wpList_append_own _ rfl _ _ 23 rfl w.heap.size 42 i0 (.agg #[.int .i64 0, .int .i64 0, .int .i64 0, .bool false]) 4 32 Try.underlying23 HQ.out.1 HQ.out.2.1 HQ.out.2.2.1 HQ.out.2.2.2 rfl (by decide) _ _ _ rfl HI9.out.row ⟨wA.heap.size, 0, none⟩ 1 1 [.int .i64 P, .int .i64 P2, .int .i64 0, .bool true] rfl rfl ?m3_1 ?m3_2 ?m3_3 ?m3_4 ?m3_5 ?_)
              case m3_1 =>
                intro j x hx
                rcases j with _ | _ | _ | _ | j
                · have e : x = .int .i64 P := by simpa using hx.symm
                  subst e; go_simp
                · have e : x = .int .i64 P2 := by simpa using hx.symm
                  subst e; go_simp
                · have e : x = .int .i64 0 := by simpa using hx.symm
                  subst e; go_simp
                · have e : x = .bool true := by simpa using hx.symm
                  subst e; go_simp
                · simp at hx
              case m3_2 => intro x hx; simp at hx; rcases hx with rfl | rfl | rfl | rfl <;> rfl
              case m3_3 => unfold maxLen; omega
              case m3_4 => omega
              case m3_5 => exact HI9.out.only.size
              intro v9 w9 hown hgrow _
              have HIa := Lib.hid (HI9.out.grown (c := ⟨P, P2, 0, true⟩) hown hgrow)
              have GCa : Hid (∀ c ∈ cs ++ [(⟨P, P2, 0, true⟩ : Chg)], GenC true c) := Lib.hid fun c hc => by
                rcases List.mem_append.1 hc with h1 | h1
                · exact HC.out c h1
                · rw [List.mem_singleton] at h1; subst h1; exact fun h => by cases h
              clear hown hgrow HI9
              go_wp2_with fail
              go_roundw
              case rel => exact ⟨I, _, by go_num, by simp; omega, HIa, GCa⟩
              case measure => simp [intOf]; omega
          · have tr2 : (R == 11) = false := by simpa using r11
            obtain ⟨y0, y1, y2, y3⟩ := X7.out.at4
            have HI9 := Lib.hid (HI7.out.alloc (.cells #[.int .i64 fr, .int .i64 kn, .int .i64 0, .bool true] 42))
            simp only at y0 y1 y2 y3
            go_upto_region 14 with fail
            generalize hwA : w7 = wA at *
            clear hwA
            go_wp2_with (at_builtin; refine wpList_append_own _ rfl _ _ 23 rfl w.heap.size 42 i0 (.agg #[.int .i64 0, .int .i64 0, .int .i64 0, .bool false]) 4 32 Try.underlying23 HQ.out.1 HQ.out.2.1 HQ.out.2.2.1 HQ.out.2.2.2 rfl (by decide) _ _ _ rfl HI9.out.row ⟨wA.heap.size, 0, none⟩ 1 1 [.int .i64 fr, .int .i64 kn, .int .i64 0, .bool true] rfl rfl ?m4_1 ?m4_2 ?m4_3 ?m4_4 ?m4_5 ?_)
            case m4_1 =>
              intro j x hx
              rcases j with _ | _ | _ | _ | j
              · have e : x = .int .i64 fr := by simpa using hx.symm
                subst e; go_simp
              · have e : x = .int .i64 kn := by simpa using hx.symm
                subst e; go_simp
              · have e : x = .int .i64 0 := by simpa using hx.symm
                subst e; go_simp
              · have e : x = .bool true := by simpa using hx.symm
                subst e; go_simp
              · simp at hx
            case m4_2 => intro x hx; simp at hx; rcases hx with rfl | rfl | rfl | rfl <;> rfl
            case m4_3 => unfold maxLen; omega
            case m4_4 => omega
            case m4_5 => exact HI9.out.only.size
            intro v9 w9 hown hgrow _
            have HIa := Lib.hid (HI9.out.grown (c := ⟨fr, kn, 0, true⟩) hown hgrow)
            have GCa : Hid (∀ c ∈ cs ++ [(⟨fr, kn, 0, true⟩ : Chg)], GenC wild c) := Lib.hid fun c hc => by
              rcases List.mem_append.1 hc with h1 | h1
              · exact HC.out c h1
              · rw [List.mem_singleton] at h1; subst h1; exact fun _ => GD.out rfl
            clear hown hgrow HI9
            go_wp2_with fail
            go_roundw
            case rel => exact ⟨I, _, by go_num, by simp; omega, HIa, GCa⟩
            case measure => simp [intOf]; omega
      · have tq : (Q == 3) = false := by simpa using q3
        go_wp2_with fail
        refine (next_any b 12 (by omega) (by omega) _ HI6.out.tape).mono ?_
        rintro e w7 ⟨R, rfl, R0, R1, T7, O7⟩
        have HI7 := Lib.hid (HI6.out.step T7 O7)
        have X7 := Lib.hid (X6.out.only O7 sb)
        clear T7 O7 HI6 X6
        by_cases r10 : R = 10
        · subst r10
          have HI7a := Lib.hid (HI7.out.alloc (.cells #[.int .i64 0, .int .i64 84005] 3))
          have X7a := Lib.hid (X7.out.alloc (.cells #[.int .i64 0, .int .i64 84005] 3))
          have sn : w7.heap.size ≠ b := by have := HI7.out.tape.lt; omega
          go_wp2_with fail
          refine (pick_any b w7.heap.size [0, 84005] (by simp) (by simp) sn _ HI7a.out.tape (two w7 0 84005 3)).mono ?_
          rintro e w8 ⟨P, rfl, PM, T8, O8⟩
          have HI8 := Lib.hid (HI7a.out.step T8 O8)
          have X8 := Lib.hid (X7a.out.only O8 sb)
          have HPM : 0 ≤ P ∧ P ≤ 84005 := by simp at PM; omega
          clear T8 O8 HI7 X7 HI7a X7a PM
          obtain ⟨x0, _, _, _⟩ := X8.out.at4
          have xf := X8.out.free 0 (by omega)
          simp only at x0
          have HI8b := Lib.hid (HI8.out.set SB NE.out 0 (.int .i64 P))
          have X8b := Lib.hid (X8.out.fr P)
          clear HI8 X8
          obtain ⟨y0, y1, y2, y3⟩ := X8b.out.at4
          have HI9 := Lib.hid (HI8b.out.alloc (.cells #[.int .i64 P, .int .i64 kn, .int .i64 V, .bool false] 42))
          simp only at y0 y1 y2 y3
          go_upto_region 14 with fail
          generalize hwA : w8.setCell ⟨w4.heap.size, 0, none⟩ (.int .i64 P) = wA at *
          clear hwA
          go_wp2_with (at_builtin; refine wpList_append_own _ rfl _ _ 23 rfl w.heap.size 42 i0 (.agg #[.int .i64 0, .int .i64 0, .int .i64 0, .bool false]) 4 32 Try.underlying23 HQ.out.1 HQ.out.2.1 HQ.out.2.2.1 HQ.out.2.2.2 rfl (by decide) _ _ _ rfl HI9.out.row ⟨wA.heap.size, 0, none⟩ 1 1 [.int .i64 P, .int .i64 kn, .int .i64 V, .bool false] rfl rfl ?m5_1 ?m5_2 ?m5_3 ?m5_4 ?m5_5 ?_)
          case m5_1 =>
            intro j x hx
            rcases j with _ | _ | _ | _ | j
            · have e : x = .int .i64 P := by simpa using hx.symm
              subst e; go_simp
            · have e : x = .int .i64 kn := by simpa using hx.symm
              subst e; go_simp
            · have e : x = .int .i64 V := by simpa using hx.symm
              subst e; go_simp
            · have e : x = .bool false := by simpa using hx.symm
              subst e; go_simp
            · simp at hx
          case m5_2 => intro x hx; simp at hx; rcases hx with rfl | rfl | rfl | rfl <;> rfl
          case m5_3 => unfold maxLen; omega
          case m5_4 => omega
          case m5_5 => exact HI9.out.only.size
          intro v9 w9 hown hgrow _
          have HIa := Lib.hid (HI9.out.grown (c := ⟨P, kn, V, false⟩) hown hgrow)
          have GCa : Hid (∀ c ∈ cs ++ [(⟨P, kn, V, false⟩ : Chg)], GenC wild c) := Lib.hid fun c hc => by
            rcases List.mem_append.1 hc with h1 | h1
            · exact HC.out c h1
            · rw [List.mem_singleton] at h1; subst h1; have g := GC.out rfl; exact fun _ => ⟨HPM.1, HPM.2, g.2.2.1, g.2.2.2.1, g.2.2.2.2.1, g.2.2.2.2.2.1, g.2.2.2.2.2.2⟩
          clear hown hgrow HI9
          go_wp2_with fail
          go_roundw
          case rel => exact ⟨I, _, by go_num, by simp; omega, HIa, GCa⟩
          case measure => simp [intOf]; omega
        · have tr : (R == 10) = false := by simpa using r10
          by_cases r11 : R = 11
          · subst r11
            clear tr
            cases wild with
            | false =>
              obtain ⟨y0, y1, y2, y3⟩ := X7.out.at4
              have HI9 := Lib.hid (HI7.out.alloc (.cells #[.int .i64 fr, .int .i64 kn, .int .i64 V, .bool false] 42))
              simp only at y0 y1 y2 y3
              go_upto_region 14 with fail
              generalize hwA : w7 = wA at *
              clear hwA
              go_wp2_with (at_builtin; refine wpList_append_own _ rfl _ _ 23 rfl w.heap.size 42 i0 (.agg #[.int .i64 0, .int .i64 0, .int .i64 0, .bool false]) 4 32 Try.underlying23 HQ.out.1 HQ.out.2.1 HQ.out.2.2.1 HQ.out.2.2.2 rfl (by decide) _ _ _ rfl HI9.out.row ⟨wA.heap.size, 0, none⟩ 1 1 [.int .i64 fr, .int .i64 kn, .int .i64 V, .bool false] rfl rfl ?m6_1 ?m6_2 ?m6_3 ?m6_4 ?m6_5 ?_)
              case m6_1 =>
                intro j x hx
                rcases j with _ | _ | _ | _ | j
                · have e : x = .int .i64 fr := by simpa using hx.symm
                  subst e; go_simp
                · have e : x = .int .i64 kn := by simpa using hx.symm
                  subst e; go_simp
                · have e : x = .int .i64 V := by simpa using hx.symm
                  subst e; go_simp
                · have e : x = .bool false := by simpa using hx.symm
                  subst e; go_simp
                · simp at hx
              case m6_2 => intro x hx; simp at hx; rcases hx with rfl | rfl | rfl | rfl <;> rfl
              case m6_3 => unfold maxLen; omega
              case m6_4 => omega
              case m6_5 => exact HI9.out.only.size
              intro v9 w9 hown hgrow _
              have HIa := Lib.hid (HI9.out.grown (c := ⟨fr, kn, V, false⟩) hown hgrow)
              have GCa : Hid (∀ c ∈ cs ++ [(⟨fr, kn, V, false⟩ : Chg)], GenC false c) := Lib.hid fun c hc => by
                rcases List.mem_append.1 hc with h1 | h1
                · exact HC.out c h1
                · rw [List.mem_singleton] at h1; subst h1; exact GC.out
              clear hown hgrow HI9
              go_wp2_with fail
              go_roundw
              case rel => exact ⟨I, _, by go_num, by simp; omega, HIa, GCa⟩
              case measure => simp [intOf]; omega
            | true =>
              have HI7a := Lib.hid (HI7.out.alloc (.cells #[.int .i64 (-1), .int .i64 5, .int .i64 84006] 3))
              have X7a := Lib.hid (X7.out.alloc (.cells #[.int .i64 (-1), .int .i64 5, .int .i64 84006] 3))
              have sn : w7.heap.size ≠ b := by have := HI7.out.tape.lt; omega
              go_wp2_with fail
              refine (pick_any b w7.heap.size [-1, 5, 84006] (by simp) (by simp) sn _ HI7a.out.tape (three w7 (-1) 5 84006 3)).mono ?_
              rintro e w8 ⟨P, rfl, _, T8, O8⟩
              have HI8 := Lib.hid (HI7a.out.step T8 O8)
              have X8 := Lib.hid (X7a.out.only O8 sb)
              have HI8a := Lib.hid (HI8.out.alloc (.cells #[.int .i64 (-1), .int .i64 3] 3))
              have X8a := Lib.hid (X8.out.alloc (.cells #[.int .i64 (-1), .int .i64 3] 3))
              have sn2 : w8.heap.size ≠ b := by have := HI8.out.tape.lt; omega
              clear T8 O8 HI7 X7 HI7a X7a
              go_wp2_with fail
              refine (pick_any b w8.heap.size [-1, 3] (by simp) (by simp) sn2 _ HI8a.out.tape (two w8 (-1) 3 3)).mono ?_
              rintro e w9' ⟨P2, rfl, _, T9, O9⟩
              have HI9a := Lib.hid (HI8a.out.step T9 O9)
              have X9a := Lib.hid (X8a.out.only O9 sb)
              clear T9 O9 HI8 X8 HI8a X8a
              obtain ⟨x0, x1, _, _⟩ := X9a.out.at4
              have xf := X9a.out.free 0 (by omega)
              have xf1 := X9a.out.free 1 (by omega)
              simp only at x0 x1
              have HI9b := Lib.hid ((HI9a.out.set SB NE.out 0 (.int .i64 P)).set SB NE.out 1 (.int .i64 P2))
              have X9b := Lib.hid ((X9a.out.fr P).kn P2)
              clear HI9a X9a
              obtain ⟨y0, y1, y2, y3⟩ := X9b.out.at4
              have HI9 := Lib.hid (HI9b.out.alloc (.cells #[.int .i64 P, .int .i64 P2, .int .i64 V, .bool false] 42))
              simp only at y0 y1 y2 y3
              go_upto_region 14 with fail
              generalize hwA : (w9'.setCell ⟨w4.heap.size, 0, none⟩ (.int .i64 P)).setCell ⟨w4.heap.size, 1, none⟩ (.int .i64 P2) = wA at *
              clear hwA
              go_wp2_with (at_builtin; refine wpList_append_own _ rfl _ _ 23 rfl w.heap.size 42 i0 (.agg #[.int .i64 0, .int .i64 0, .int .i64 0, .bool false]) 4 32 Try.underlying23 HQ.out.1 HQ.out.2.1 HQ.out.2.2.1 HQ.out.2.2.2 rfl (by decide) _ _ _ rfl HI9.out.row ⟨wA.heap.size, 0, none⟩ 1 1 [.int .i64 P, .int .i64 P2, .int .i64 V, .bool false] rfl rfl ?m7_1 ?m7_2 ?m7_3 ?m7_4 ?m7_5 ?_)
              case m7_1 =>
                intro j x hx
                rcases j with _ | _ | _ | _ | j
                · have e : x = .int .i64 P := by simpa using hx.symm
                  subst e; go_simp
                · have e : x = .int .i64 P2 := by simpa using hx.symm
                  subst e; go_simp
                · have e : x = .int .i64 V := by simpa using hx.symm
                  subst e; go_simp
                · have e : x = .bool false := by simpa using hx.symm
                  subst e; go_simp
                · simp at hx
              case m7_2 => intro x hx; simp at hx; rcases hx with rfl | rfl | rfl | rfl <;> rfl
              case m7_3 => unfold maxLen; omega
              case m7_4 => omega
              case m7_5 => exact HI9.out.only.size
              intro v9 w9 hown hgrow _
              have HIa := Lib.hid (HI9.out.grown (c := ⟨P, P2, V, false⟩) hown hgrow)
              have GCa : Hid (∀ c ∈ cs ++ [(⟨P, P2, V, false⟩ : Chg)], GenC true c) := Lib.hid fun c hc => by
                rcases List.mem_append.1 hc with h1 | h1
                · exact HC.out c h1
                · rw [List.mem_singleton] at h1; subst h1; exact fun h => by cases h
              clear hown hgrow HI9
              go_wp2_with fail
              go_roundw
              case rel => exact ⟨I, _, by go_num, by simp; omega, HIa, GCa⟩
              case measure => simp [intOf]; omega
          · have tr2 : (R == 11) = false := by simpa using r11
            obtain ⟨y0, y1, y2, y3⟩ := X7.out.at4
            have HI9 := Lib.hid (HI7.out.alloc (.cells #[.int .i64 fr, .int .i64 kn, .int .i64 V, .bool false] 42))
            simp only at y0 y1 y2 y3
            go_upto_region 14 with fail
            generalize hwA : w7 = wA at *
            clear hwA
            go_wp2_with (at_builtin; refine wpList_append_own _ rfl _ _ 23 rfl w.heap.size 42 i0 (.agg #[.int .i64 0, .int .i64 0, .int .i64 0, .bool false]) 4 32 Try.underlying23 HQ.out.1 HQ.out.2.1 HQ.out.2.2.1 HQ.out.2.2.2 rfl (by decide) _ _ _ rfl HI9.out.row ⟨wA.heap.size, 0, none⟩ 1 1 [.int .i64 fr, .int .i64 kn, .int .i64 V, .bool false] rfl rfl ?m8_1 ?m8_2 ?m8_3 ?m8_4 ?m8_5 ?_)
            case m8_1 =>
              intro j x hx
              rcases j with _ | _ | _ | _ | j
              · have e : x = .int .i64 fr := by simpa using hx.symm
                subst e; go_simp
              · have e : x = .int .i64 kn := by simpa using hx.symm
                subst e; go_simp
              · have e : x = .int .i64 V := by simpa using hx.symm
                subst e; go_simp
              · have e : x = .bool false := by simpa using hx.symm
                subst e; go_simp
              · simp at hx
            case m8_2 => intro x hx; simp at hx; rcases hx with rfl | rfl | rfl | rfl <;> rfl
            case m8_3 => unfold maxLen; omega
            case m8_4 => omega
            case m8_5 => exact HI9.out.only.size
            intro v9 w9 hown hgrow _
            have HIa := Lib.hid (HI9.out.grown (c := ⟨fr, kn, V, false⟩) hown hgrow)
            have GCa : Hid (∀ c ∈ cs ++ [(⟨fr, kn, V, false⟩ : Chg)], GenC wild c) := Lib.hid fun c hc => by
              rcases List.mem_append.1 hc with h1 | h1
              · exact HC.out c h1
              · rw [List.mem_singleton] at h1; subst h1; exact fun _ => GC.out rfl
            clear hown hgrow HI9
            go_wp2_with fail
            go_roundw
            case rel => exact ⟨I, _, by go_num, by simp; omega, HIa, GCa⟩
            case measure => simp [intOf]; omega
    · obtain rfl : i = 0 := by omega
      obtain ⟨a9, c9, rfl, hA⟩ := ownA_of HI.out.row
      have HA9 := Lib.hid hA
      clear hA
      go_wp2
      go_ret
      exact ⟨a9, c9, cs, rfl, HA9.out, by omega, HC.out, HI.out.tape, HI.out.only⟩
set_option maxRecDepth 100000 in
set_option maxHeartbeats 2000000 in
theorem day_any (b : Nat) (w : World) (h : TapeAt b w) : Calls Try.prog 11 #[.pointer (some ⟨b, 0, none⟩)] w (NearR b 0 84005 w) := by
  go_enter Try.func11, Try.ntmps11
  go_wp2_with fail
  refine (next_any b 35 (by omega) (by omega) _ h).mono ?_
  rintro e w1 ⟨F, rfl, F0, F1, T1, O1⟩
  have wf : IntKind.i64.wrap (F - 2) = F - 2 := by rw [IntKind.wrap_i64]; omega
  have T2 := Lib.hid (T1.alloc (.cells #[.int .i64 (F - 2), .int .i64 (-20454), .int .i64 63551] 3))
  have HO1 := Lib.hid (O1.alloc (.cells #[.int .i64 (F - 2), .int .i64 (-20454), .int .i64 63551] 3))
  have sn : w1.heap.size ≠ b := by have := T1.lt; omega
  have TH := Lib.hid (three w1 (F - 2) (-20454) 63551 3)
  clear T1 O1 h
  go_wp2_with fail
  refine (pick_any b w1.heap.size [F - 2, -20454, 63551] (by simp) (by simp) sn _ T2.out TH.out).mono ?_
  rintro e w2 ⟨P, rfl, PM, T3, O3⟩
  have HP : -20454 ≤ P ∧ P ≤ 63551 := by simp at PM; omega
  have wp : IntKind.i64.wrap (20454 + P) = 20454 + P := by rw [IntKind.wrap_i64]; omega
  have HT := Lib.hid T3
  have HO := Lib.hid (HO1.out.trans O3)
  clear T3 O3 PM
  go_wp2_with fail
  go_ret
  exact ⟨20454 + P, rfl, by omega, by omega, HT.out, HO.out⟩
end Go.Proofs.Ytdpgmjmmnjbbiaa.Tl
