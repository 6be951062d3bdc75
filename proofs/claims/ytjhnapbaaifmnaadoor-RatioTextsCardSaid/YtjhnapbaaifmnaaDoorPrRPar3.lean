/-
  Layer 1 (ratio): the walk of the reference's Parse. Condition: the string's length is an int.
-/
import Derived.Test.YtjhnapbaaifmnaaDoorPrRPar2
import Derived.Test.YtjhnapbaaifmnaaDoorPrTape2
namespace Go.Proofs.YtjhnapbaaifmnaaDoor
open Go Go.RowKit Go.Lib
set_option linter.unusedVariables false

def retR (t : Int × Int × Bool) : Value := .tuple #[.agg #[.int .i64 t.1, .int .i64 t.2.1], .bool t.2.2]
theorem ext1 (c : UInt8) (t : List UInt8) : (⟨(c :: t).toArray⟩ : ByteArray).extract 1 (t.length + 1) = ⟨t.toArray⟩ := ByteArray.ext (by simp)
theorem rp_no {l : List UInt8} (h : ¬ ((rdL l).2.2 = [] ∧ fmtL (rdL l).1 (rdL l).2.1 = l ∧ l ≠ [])) : rparsT l = (0, 0, false) := by unfold rparsT; rw [if_neg h]
theorem rp_yes {l : List UInt8} {a b : Int} (h : rdL l = (a, b, [])) (e : fmtL a b = l) (hn : l ≠ []) : rparsT l = (a, b, true) := by unfold rparsT; rw [h]; exact if_pos ⟨rfl, e, hn⟩

set_option maxRecDepth 100000 in
set_option maxHeartbeats 8000000 in
theorem rpar_nil (w : World) :
    Calls Tryd.prog 20 #[.string ⟨([] : List UInt8).toArray⟩] w fun e w' => e = .returned (retR (rparsT [])) ∧ Below w.heap.size w w' := by
  have hd : digL 13 0 [] = (0, []) := rfl
  have q1 := fun w => dig_any [] (by simp) w
  simp only [hd] at q1
  have Q1 := Lib.hid q1
  clear q1 hd
  go_enter Tryd.func20, Tryd.ntmps20
  go_wp2_with fail
  have P0 : Tp.Res ((w.alloc (.cells #[.int .i64 0, .int .i64 0] 23)).alloc (.cells #[.int .i64 0, .int .i64 1] 23)) w.heap.size 0 0 := ⟨by go_simp, by go_simp, by go_simp, by go_simp⟩
  have P1 : Tp.Res ((w.alloc (.cells #[.int .i64 0, .int .i64 0] 23)).alloc (.cells #[.int .i64 0, .int .i64 1] 23)) (w.heap.size + 1) 0 1 := ⟨by go_simp, by go_simp, by go_simp, by go_simp⟩
  refine (Q1.out _).mono ?_
  rintro e w1 ⟨rfl, hw1⟩
  have P2 := Lib.hid (P0.below hw1)
  have P3 := Lib.hid (P1.below hw1)
  have hB : Below w.heap.size w w1 := ((Below.alloc (Below.refl _ _) (Nat.le_refl _) _).alloc (by simp) _).trans (hw1.mono (by simp <;> omega))
  clear P0 P1 hw1
  obtain ⟨x0, x1, x2, x3⟩ := P3.out
  go_wp2_with fail
  refine (rfmt_any (0) 1 (by omega) (by omega) (by omega) (by omega) _).mono ?_
  rintro e w9 ⟨rfl, hw9⟩
  have Y9 : Tp.Res w9 w.heap.size 0 0 := by
    obtain ⟨y0, y1, y2, y3⟩ := P2.out
    exact Tp.Res.below ⟨by go_simp, by go_simp, by go_simp, by go_simp⟩ hw9
  have X9 : Tp.Res w9 (w.heap.size + 1) (0) 1 := Tp.Res.below ⟨by go_simp, by go_simp, by go_simp, by go_simp⟩ hw9
  have hB9 : Below w.heap.size w w9 := by
    refine Below.trans ?_ (hw9.mono ?_)
    · repeat (first | exact hB | refine Below.setCell ?_ (by simp <;> omega) _)
    · have := hB.size; simp; omega
  clear x0 x1 x2 x3 hw9
  obtain ⟨x0, x1, x2, x3⟩ := X9
  obtain ⟨y0, y1, y2, y3⟩ := Y9
  have hrd : True := trivial
  have HF := Lib.hid (show ¬ fmtL 0 1 = [] from fmt_ne (by decide))
  have hr : rparsT [] = (0, 0, false) := rp_no (fun h => h.2.2 rfl)
  have HR := Lib.hid hr
  clear hr hrd
  have zY : w.heap.size < w9.heap.size := World.block_lt_of_cell? _ _ y0
  go_wp2_with fail
  refine bodyPost_ret (v := retR (rparsT [])) (by rw [HR.out]; simp [results, Tryd.results20, go_sem, retR, y0, y1]) rfl ⟨rfl, ?_⟩
  repeat (first | exact hB9 | refine Below.setCell ?_ (by simp <;> omega) _ | refine Below.alloc ?_ (by simp <;> omega) _ | refine below_drewN ?_ _)
set_option maxRecDepth 100000 in
set_option maxHeartbeats 8000000 in
theorem rpar_neg (c : UInt8) (t : List UInt8) (hl : (c :: t).length ≤ 9223372036854775807) (hc : c = 45) (w : World) :
    Calls Tryd.prog 20 #[.string ⟨((c :: t) : List UInt8).toArray⟩] w fun e w' => e = .returned (retR (rparsT (c :: t))) ∧ Below w.heap.size w w' := by
  have he : ∀ h, (⟨(c :: t).toArray⟩ : ByteArray)[0]'h = c := fun _ => rfl
  have hz : ((t.length : Int) + 1 == 0) = false := by simp; omega
  have hx := ext1 c t
  have hc8 : c.toNat < 256 := c.toNat_lt
  have ht : t.length ≤ 9223372036854775807 := by simp at hl; omega
  have hb : ((c.toNat : Int) == 45) = true := by rw [hc]; rfl
  obtain ⟨d0, d1, d2⟩ := dig13 t
  obtain ⟨a, r, hd⟩ : ∃ a r, digL 13 0 t = (a, r) := ⟨_, _, rfl⟩
  have q1 := fun w => dig_any t ht w
  simp only [hd] at q1 d0 d1 d2
  have Q1 := Lib.hid q1
  have HD := Lib.hid hd
  have HC := Lib.hid hc
  clear q1 hd hc
  go_enter Tryd.func20, Tryd.ntmps20
  go_wp2_with fail
  have P0 : Tp.Res ((w.alloc (.cells #[.int .i64 0, .int .i64 0] 23)).alloc (.cells #[.int .i64 0, .int .i64 1] 23)) w.heap.size 0 0 := ⟨by go_simp, by go_simp, by go_simp, by go_simp⟩
  have P1 : Tp.Res ((w.alloc (.cells #[.int .i64 0, .int .i64 0] 23)).alloc (.cells #[.int .i64 0, .int .i64 1] 23)) (w.heap.size + 1) 0 1 := ⟨by go_simp, by go_simp, by go_simp, by go_simp⟩
  refine (Q1.out _).mono ?_
  rintro e w1 ⟨rfl, hw1⟩
  have P2 := Lib.hid (P0.below hw1)
  have P3 := Lib.hid (P1.below hw1)
  have hB : Below w.heap.size w w1 := ((Below.alloc (Below.refl _ _) (Nat.le_refl _) _).alloc (by simp) _).trans (hw1.mono (by simp <;> omega))
  clear P0 P1 hw1
  rcases r with _ | ⟨c2, t2⟩
  · obtain ⟨x0, x1, x2, x3⟩ := P3.out
    go_wp2_with fail
    refine (rfmt_any (-a) 1 (by omega) (by omega) (by omega) (by omega) _).mono ?_
    rintro e w9 ⟨rfl, hw9⟩
    have Y9 : Tp.Res w9 w.heap.size 0 0 := by
      obtain ⟨y0, y1, y2, y3⟩ := P2.out
      exact Tp.Res.below ⟨by go_simp, by go_simp, by go_simp, by go_simp⟩ hw9
    have X9 : Tp.Res w9 (w.heap.size + 1) (-a) 1 := Tp.Res.below ⟨by go_simp, by go_simp, by go_simp, by go_simp⟩ hw9
    have hB9 : Below w.heap.size w w9 := by
      refine Below.trans ?_ (hw9.mono ?_)
      · repeat (first | exact hB | refine Below.setCell ?_ (by simp <;> omega) _)
      · have := hB.size; simp; omega
    clear x0 x1 x2 x3 hw9
    obtain ⟨x0, x1, x2, x3⟩ := X9
    obtain ⟨y0, y1, y2, y3⟩ := Y9
    have hrd : rdL (c :: t) = (-a, 1, []) := by unfold rdL; simp [HC.out, HD.out]
    by_cases hf : fmtL (-a) 1 = (c :: t)
    · have HF := Lib.hid hf
      have hr : rparsT (c :: t) = (-a, 1, true) := rp_yes hrd hf (by simp)
      have HR := Lib.hid hr
      clear hf hr hrd
      have zY : w.heap.size < w9.heap.size := World.block_lt_of_cell? _ _ y0
      go_wp2_with fail
      refine bodyPost_ret (v := retR (rparsT (c :: t))) (by rw [HR.out]; simp [results, Tryd.results20, go_sem, retR, y0, y1]) rfl ⟨rfl, ?_⟩
      repeat (first | exact hB9 | refine Below.setCell ?_ (by simp <;> omega) _ | refine Below.alloc ?_ (by simp <;> omega) _ | refine below_drewN ?_ _)
    · have HF := Lib.hid hf
      have hr : rparsT (c :: t) = (0, 0, false) := rp_no (by rw [hrd]; exact fun h => hf h.2.1)
      have HR := Lib.hid hr
      clear hf hr hrd
      have zY : w.heap.size < w9.heap.size := World.block_lt_of_cell? _ _ y0
      go_wp2_with fail
      refine bodyPost_ret (v := retR (rparsT (c :: t))) (by rw [HR.out]; simp [results, Tryd.results20, go_sem, retR, y0, y1]) rfl ⟨rfl, ?_⟩
      repeat (first | exact hB9 | refine Below.setCell ?_ (by simp <;> omega) _ | refine Below.alloc ?_ (by simp <;> omega) _ | refine below_drewN ?_ _)
  · have he2 : ∀ h, (⟨(c2 :: t2).toArray⟩ : ByteArray)[0]'h = c2 := fun _ => rfl
    have hz2 : ((t2.length : Int) + 1 == 0) = false := by simp; omega
    have hx2 := ext1 c2 t2
    have h28 : c2.toNat < 256 := c2.toNat_lt
    have ht2 : t2.length ≤ 9223372036854775807 := by simp at hl d2; omega
    clear hl d2
    obtain ⟨x0, x1, x2, x3⟩ := P3.out
    by_cases hc2 : c2 = 47
    · have hb2 : ((c2.toNat : Int) == 47) = true := by rw [hc2]; rfl
      obtain ⟨b0, b1, b2⟩ := dig13 t2
      obtain ⟨b, r2, hd2⟩ : ∃ b r2, digL 13 0 t2 = (b, r2) := ⟨_, _, rfl⟩
      have q2 := fun w => dig_any t2 ht2 w
      simp only [hd2] at q2 b0 b1 b2
      have Q2 := Lib.hid q2
      have H2 := Lib.hid hd2
      have HC2 := Lib.hid hc2
      clear q2 hd2 hc2
      go_wp2_with fail
      refine (Q2.out _).mono ?_
      rintro e w2 ⟨rfl, hw2⟩
      have P4 : Hid (Tp.Res w2 w.heap.size 0 0) := Lib.hid (by
        obtain ⟨y0, y1, y2, y3⟩ := P2.out
        exact Tp.Res.below ⟨by go_simp, by go_simp, by go_simp, by go_simp⟩ hw2)
      have P5 : Tp.Res w2 (w.heap.size + 1) a 1 := Tp.Res.below ⟨by go_simp, by go_simp, by go_simp, by go_simp⟩ hw2
      have hB2 : Below w.heap.size w w2 := by
        refine Below.trans ?_ (hw2.mono ?_)
        · repeat (first | exact hB | refine Below.setCell ?_ (by simp <;> omega) _)
        · have := hB.size; simp; omega
      clear x0 x1 x2 x3 hw2 hx2
      obtain ⟨x0, x1, x2, x3⟩ := P5
      rcases r2 with _ | ⟨c3, t3⟩
      · skip
        go_wp2_with fail
        refine (rfmt_any (-a) b (by omega) (by omega) (by omega) (by omega) _).mono ?_
        rintro e w9 ⟨rfl, hw9⟩
        have Y9 : Tp.Res w9 w.heap.size 0 0 := by
          obtain ⟨y0, y1, y2, y3⟩ := P4.out
          exact Tp.Res.below ⟨by go_simp, by go_simp, by go_simp, by go_simp⟩ hw9
        have X9 : Tp.Res w9 (w.heap.size + 1) (-a) b := Tp.Res.below ⟨by go_simp, by go_simp, by go_simp, by go_simp⟩ hw9
        have hB9 : Below w.heap.size w w9 := by
          refine Below.trans ?_ (hw9.mono ?_)
          · repeat (first | exact hB2 | refine Below.setCell ?_ (by simp <;> omega) _)
          · have := hB2.size; simp; omega
        clear x0 x1 x2 x3 hw9
        obtain ⟨x0, x1, x2, x3⟩ := X9
        obtain ⟨y0, y1, y2, y3⟩ := Y9
        have hrd : rdL (c :: t) = (-a, b, []) := by unfold rdL; simp [HC.out, HD.out, HC2.out, H2.out]
        by_cases hf : fmtL (-a) b = (c :: t)
        · have HF := Lib.hid hf
          have hr : rparsT (c :: t) = (-a, b, true) := rp_yes hrd hf (by simp)
          have HR := Lib.hid hr
          clear hf hr hrd
          have zY : w.heap.size < w9.heap.size := World.block_lt_of_cell? _ _ y0
          go_wp2_with fail
          refine bodyPost_ret (v := retR (rparsT (c :: t))) (by rw [HR.out]; simp [results, Tryd.results20, go_sem, retR, y0, y1]) rfl ⟨rfl, ?_⟩
          repeat (first | exact hB9 | refine Below.setCell ?_ (by simp <;> omega) _ | refine Below.alloc ?_ (by simp <;> omega) _ | refine below_drewN ?_ _)
        · have HF := Lib.hid hf
          have hr : rparsT (c :: t) = (0, 0, false) := rp_no (by rw [hrd]; exact fun h => hf h.2.1)
          have HR := Lib.hid hr
          clear hf hr hrd
          have zY : w.heap.size < w9.heap.size := World.block_lt_of_cell? _ _ y0
          go_wp2_with fail
          refine bodyPost_ret (v := retR (rparsT (c :: t))) (by rw [HR.out]; simp [results, Tryd.results20, go_sem, retR, y0, y1]) rfl ⟨rfl, ?_⟩
          repeat (first | exact hB9 | refine Below.setCell ?_ (by simp <;> omega) _ | refine Below.alloc ?_ (by simp <;> omega) _ | refine below_drewN ?_ _)
      · have hz3 : ((t3.length : Int) + 1 == 0) = false := by simp; omega
        have ht3 : t3.length ≤ 9223372036854775807 := by simp at b2; omega
        have hrd : rdL (c :: t) = (-a, b, c3 :: t3) := by unfold rdL; simp [HC.out, HD.out, HC2.out, H2.out]
        have hr : rparsT (c :: t) = (0, 0, false) := rp_no (by rw [hrd]; rintro ⟨h, _⟩; simp at h)
        have HR := Lib.hid hr
        clear hr hrd
        obtain ⟨y0, y1, y2, y3⟩ := P4.out
        have zY := World.block_lt_of_cell? _ _ y0
        go_wp2_with fail
        refine bodyPost_ret (v := retR (rparsT (c :: t))) (by rw [HR.out]; simp [results, Tryd.results20, go_sem, retR, y0, y1]) rfl ⟨rfl, ?_⟩
        repeat (first | exact hB2 | refine Below.setCell ?_ (by simp <;> omega) _ | refine Below.alloc ?_ (by simp <;> omega) _ | refine below_drewN ?_ _)
    · have hb2 : ((c2.toNat : Int) == 47) = false := by
        simp; intro h; exact hc2 (UInt8.toNat_inj.1 (by show c2.toNat = 47; omega))
      have HC2 := Lib.hid hc2
      clear hc2
      have hrd : rdL (c :: t) = (-a, 1, c2 :: t2) := by unfold rdL; simp [HC.out, HD.out, HC2.out]
      have hr : rparsT (c :: t) = (0, 0, false) := rp_no (by rw [hrd]; rintro ⟨h, _⟩; simp at h)
      have HR := Lib.hid hr
      clear hr hrd
      obtain ⟨y0, y1, y2, y3⟩ := P2.out
      have zY := World.block_lt_of_cell? _ _ y0
      go_wp2_with fail
      refine bodyPost_ret (v := retR (rparsT (c :: t))) (by rw [HR.out]; simp [results, Tryd.results20, go_sem, retR, y0, y1]) rfl ⟨rfl, ?_⟩
      repeat (first | exact hB | refine Below.setCell ?_ (by simp <;> omega) _ | refine Below.alloc ?_ (by simp <;> omega) _ | refine below_drewN ?_ _)
set_option maxRecDepth 100000 in
set_option maxHeartbeats 8000000 in
theorem rpar_pos (c : UInt8) (t : List UInt8) (hl : (c :: t).length ≤ 9223372036854775807) (hc : ¬ c = 45) (w : World) :
    Calls Tryd.prog 20 #[.string ⟨((c :: t) : List UInt8).toArray⟩] w fun e w' => e = .returned (retR (rparsT (c :: t))) ∧ Below w.heap.size w w' := by
  have he : ∀ h, (⟨(c :: t).toArray⟩ : ByteArray)[0]'h = c := fun _ => rfl
  have hz : ((t.length : Int) + 1 == 0) = false := by simp; omega
  have hx := ext1 c t
  have hc8 : c.toNat < 256 := c.toNat_lt
  have ht : t.length ≤ 9223372036854775807 := by simp at hl; omega
  have hb : ((c.toNat : Int) == 45) = false := by
    simp; intro h; exact hc (UInt8.toNat_inj.1 (by show c.toNat = 45; omega))
  obtain ⟨d0, d1, d2⟩ := dig13 (c :: t)
  obtain ⟨a, r, hd⟩ : ∃ a r, digL 13 0 (c :: t) = (a, r) := ⟨_, _, rfl⟩
  have q1 := fun w => dig_any (c :: t) hl w
  simp only [hd] at q1 d0 d1 d2
  have Q1 := Lib.hid q1
  have HD := Lib.hid hd
  have HC := Lib.hid hc
  clear q1 hd hc
  go_enter Tryd.func20, Tryd.ntmps20
  go_wp2_with fail
  have P0 : Tp.Res ((w.alloc (.cells #[.int .i64 0, .int .i64 0] 23)).alloc (.cells #[.int .i64 0, .int .i64 1] 23)) w.heap.size 0 0 := ⟨by go_simp, by go_simp, by go_simp, by go_simp⟩
  have P1 : Tp.Res ((w.alloc (.cells #[.int .i64 0, .int .i64 0] 23)).alloc (.cells #[.int .i64 0, .int .i64 1] 23)) (w.heap.size + 1) 0 1 := ⟨by go_simp, by go_simp, by go_simp, by go_simp⟩
  refine (Q1.out _).mono ?_
  rintro e w1 ⟨rfl, hw1⟩
  have P2 := Lib.hid (P0.below hw1)
  have P3 := Lib.hid (P1.below hw1)
  have hB : Below w.heap.size w w1 := ((Below.alloc (Below.refl _ _) (Nat.le_refl _) _).alloc (by simp) _).trans (hw1.mono (by simp <;> omega))
  clear P0 P1 hw1
  rcases r with _ | ⟨c2, t2⟩
  · obtain ⟨x0, x1, x2, x3⟩ := P3.out
    go_wp2_with fail
    refine (rfmt_any (a) 1 (by omega) (by omega) (by omega) (by omega) _).mono ?_
    rintro e w9 ⟨rfl, hw9⟩
    have Y9 : Tp.Res w9 w.heap.size 0 0 := by
      obtain ⟨y0, y1, y2, y3⟩ := P2.out
      exact Tp.Res.below ⟨by go_simp, by go_simp, by go_simp, by go_simp⟩ hw9
    have X9 : Tp.Res w9 (w.heap.size + 1) (a) 1 := Tp.Res.below ⟨by go_simp, by go_simp, by go_simp, by go_simp⟩ hw9
    have hB9 : Below w.heap.size w w9 := by
      refine Below.trans ?_ (hw9.mono ?_)
      · repeat (first | exact hB | refine Below.setCell ?_ (by simp <;> omega) _)
      · have := hB.size; simp; omega
    clear x0 x1 x2 x3 hw9
    obtain ⟨x0, x1, x2, x3⟩ := X9
    obtain ⟨y0, y1, y2, y3⟩ := Y9
    have hrd : rdL (c :: t) = (a, 1, []) := by unfold rdL; simp [HC.out, HD.out]
    by_cases hf : fmtL (a) 1 = (c :: t)
    · have HF := Lib.hid hf
      have hr : rparsT (c :: t) = (a, 1, true) := rp_yes hrd hf (by simp)
      have HR := Lib.hid hr
      clear hf hr hrd
      have zY : w.heap.size < w9.heap.size := World.block_lt_of_cell? _ _ y0
      go_wp2_with fail
      refine bodyPost_ret (v := retR (rparsT (c :: t))) (by rw [HR.out]; simp [results, Tryd.results20, go_sem, retR, y0, y1]) rfl ⟨rfl, ?_⟩
      repeat (first | exact hB9 | refine Below.setCell ?_ (by simp <;> omega) _ | refine Below.alloc ?_ (by simp <;> omega) _ | refine below_drewN ?_ _)
    · have HF := Lib.hid hf
      have hr : rparsT (c :: t) = (0, 0, false) := rp_no (by rw [hrd]; exact fun h => hf h.2.1)
      have HR := Lib.hid hr
      clear hf hr hrd
      have zY : w.heap.size < w9.heap.size := World.block_lt_of_cell? _ _ y0
      go_wp2_with fail
      refine bodyPost_ret (v := retR (rparsT (c :: t))) (by rw [HR.out]; simp [results, Tryd.results20, go_sem, retR, y0, y1]) rfl ⟨rfl, ?_⟩
      repeat (first | exact hB9 | refine Below.setCell ?_ (by simp <;> omega) _ | refine Below.alloc ?_ (by simp <;> omega) _ | refine below_drewN ?_ _)
  · have he2 : ∀ h, (⟨(c2 :: t2).toArray⟩ : ByteArray)[0]'h = c2 := fun _ => rfl
    have hz2 : ((t2.length : Int) + 1 == 0) = false := by simp; omega
    have hx2 := ext1 c2 t2
    have h28 : c2.toNat < 256 := c2.toNat_lt
    have ht2 : t2.length ≤ 9223372036854775807 := by simp at hl d2; omega
    clear hl d2
    obtain ⟨x0, x1, x2, x3⟩ := P3.out
    by_cases hc2 : c2 = 47
    · have hb2 : ((c2.toNat : Int) == 47) = true := by rw [hc2]; rfl
      obtain ⟨b0, b1, b2⟩ := dig13 t2
      obtain ⟨b, r2, hd2⟩ : ∃ b r2, digL 13 0 t2 = (b, r2) := ⟨_, _, rfl⟩
      have q2 := fun w => dig_any t2 ht2 w
      simp only [hd2] at q2 b0 b1 b2
      have Q2 := Lib.hid q2
      have H2 := Lib.hid hd2
      have HC2 := Lib.hid hc2
      clear q2 hd2 hc2
      go_wp2_with fail
      refine (Q2.out _).mono ?_
      rintro e w2 ⟨rfl, hw2⟩
      have P4 : Hid (Tp.Res w2 w.heap.size 0 0) := Lib.hid (by
        obtain ⟨y0, y1, y2, y3⟩ := P2.out
        exact Tp.Res.below ⟨by go_simp, by go_simp, by go_simp, by go_simp⟩ hw2)
      have P5 : Tp.Res w2 (w.heap.size + 1) a 1 := Tp.Res.below ⟨by go_simp, by go_simp, by go_simp, by go_simp⟩ hw2
      have hB2 : Below w.heap.size w w2 := by
        refine Below.trans ?_ (hw2.mono ?_)
        · repeat (first | exact hB | refine Below.setCell ?_ (by simp <;> omega) _)
        · have := hB.size; simp; omega
      clear x0 x1 x2 x3 hw2 hx2
      obtain ⟨x0, x1, x2, x3⟩ := P5
      rcases r2 with _ | ⟨c3, t3⟩
      · skip
        go_wp2_with fail
        refine (rfmt_any (a) b (by omega) (by omega) (by omega) (by omega) _).mono ?_
        rintro e w9 ⟨rfl, hw9⟩
        have Y9 : Tp.Res w9 w.heap.size 0 0 := by
          obtain ⟨y0, y1, y2, y3⟩ := P4.out
          exact Tp.Res.below ⟨by go_simp, by go_simp, by go_simp, by go_simp⟩ hw9
        have X9 : Tp.Res w9 (w.heap.size + 1) (a) b := Tp.Res.below ⟨by go_simp, by go_simp, by go_simp, by go_simp⟩ hw9
        have hB9 : Below w.heap.size w w9 := by
          refine Below.trans ?_ (hw9.mono ?_)
          · repeat (first | exact hB2 | refine Below.setCell ?_ (by simp <;> omega) _)
          · have := hB2.size; simp; omega
        clear x0 x1 x2 x3 hw9
        obtain ⟨x0, x1, x2, x3⟩ := X9
        obtain ⟨y0, y1, y2, y3⟩ := Y9
        have hrd : rdL (c :: t) = (a, b, []) := by unfold rdL; simp [HC.out, HD.out, HC2.out, H2.out]
        by_cases hf : fmtL (a) b = (c :: t)
        · have HF := Lib.hid hf
          have hr : rparsT (c :: t) = (a, b, true) := rp_yes hrd hf (by simp)
          have HR := Lib.hid hr
          clear hf hr hrd
          have zY : w.heap.size < w9.heap.size := World.block_lt_of_cell? _ _ y0
          go_wp2_with fail
          refine bodyPost_ret (v := retR (rparsT (c :: t))) (by rw [HR.out]; simp [results, Tryd.results20, go_sem, retR, y0, y1]) rfl ⟨rfl, ?_⟩
          repeat (first | exact hB9 | refine Below.setCell ?_ (by simp <;> omega) _ | refine Below.alloc ?_ (by simp <;> omega) _ | refine below_drewN ?_ _)
        · have HF := Lib.hid hf
          have hr : rparsT (c :: t) = (0, 0, false) := rp_no (by rw [hrd]; exact fun h => hf h.2.1)
          have HR := Lib.hid hr
          clear hf hr hrd
          have zY : w.heap.size < w9.heap.size := World.block_lt_of_cell? _ _ y0
          go_wp2_with fail
          refine bodyPost_ret (v := retR (rparsT (c :: t))) (by rw [HR.out]; simp [results, Tryd.results20, go_sem, retR, y0, y1]) rfl ⟨rfl, ?_⟩
          repeat (first | exact hB9 | refine Below.setCell ?_ (by simp <;> omega) _ | refine Below.alloc ?_ (by simp <;> omega) _ | refine below_drewN ?_ _)
      · have hz3 : ((t3.length : Int) + 1 == 0) = false := by simp; omega
        have ht3 : t3.length ≤ 9223372036854775807 := by simp at b2; omega
        have hrd : rdL (c :: t) = (a, b, c3 :: t3) := by unfold rdL; simp [HC.out, HD.out, HC2.out, H2.out]
        have hr : rparsT (c :: t) = (0, 0, false) := rp_no (by rw [hrd]; rintro ⟨h, _⟩; simp at h)
        have HR := Lib.hid hr
        clear hr hrd
        obtain ⟨y0, y1, y2, y3⟩ := P4.out
        have zY := World.block_lt_of_cell? _ _ y0
        go_wp2_with fail
        refine bodyPost_ret (v := retR (rparsT (c :: t))) (by rw [HR.out]; simp [results, Tryd.results20, go_sem, retR, y0, y1]) rfl ⟨rfl, ?_⟩
        repeat (first | exact hB2 | refine Below.setCell ?_ (by simp <;> omega) _ | refine Below.alloc ?_ (by simp <;> omega) _ | refine below_drewN ?_ _)
    · have hb2 : ((c2.toNat : Int) == 47) = false := by
        simp; intro h; exact hc2 (UInt8.toNat_inj.1 (by show c2.toNat = 47; omega))
      have HC2 := Lib.hid hc2
      clear hc2
      have hrd : rdL (c :: t) = (a, 1, c2 :: t2) := by unfold rdL; simp [HC.out, HD.out, HC2.out]
      have hr : rparsT (c :: t) = (0, 0, false) := rp_no (by rw [hrd]; rintro ⟨h, _⟩; simp at h)
      have HR := Lib.hid hr
      clear hr hrd
      obtain ⟨y0, y1, y2, y3⟩ := P2.out
      have zY := World.block_lt_of_cell? _ _ y0
      go_wp2_with fail
      refine bodyPost_ret (v := retR (rparsT (c :: t))) (by rw [HR.out]; simp [results, Tryd.results20, go_sem, retR, y0, y1]) rfl ⟨rfl, ?_⟩
      repeat (first | exact hB | refine Below.setCell ?_ (by simp <;> omega) _ | refine Below.alloc ?_ (by simp <;> omega) _ | refine below_drewN ?_ _)

theorem rpar_any (s : ByteArray) (hs : s.size ≤ 9223372036854775807) (w : World) :
    Calls Tryd.prog 20 #[.string s] w fun e w' => e = .returned (retR (parsT s)) ∧ Below w.heap.size w w' := by
  rw [← rpars_eq s]
  have hs' : s = ⟨s.data.toList.toArray⟩ := ByteArray.ext (by simp)
  have hl : s.data.toList.length ≤ 9223372036854775807 := by simpa using hs
  generalize s.data.toList = l at *
  subst hs'
  rcases l with _ | ⟨c, t⟩
  · exact rpar_nil w
  · by_cases hc : c = 45
    · exact rpar_neg c t hl hc w
    · exact rpar_pos c t hl hc w
end Go.Proofs.YtjhnapbaaifmnaaDoor
