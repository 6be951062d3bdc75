/-
  Layer 7 (records): contracts of within, isKey and Valid of the program, key and Valid of the reference: whether an event is valid. Condition: the numbers fit their kind.
-/
import Derived.Test.YtebdldinlodgpaaPrJa
namespace Go.Proofs.Ytebdldinlodgpaa.Rc
open Go Go.RowKit Go.Lib Go.Sort Go.Shelf Go.Proofs Go.Proofs.Ytebdldinlodgpaa Go.Proofs.Ytebdldinlodgpaa.Tp
set_option linter.unusedVariables false

/-- An event as a value. -/
def vE (e : Ev) : Value := .agg #[.int .i64 e.kt, .int .i64 e.ks, .int .i64 e.em, .int .i64 e.ti, .int .i64 e.ki, .int .i64 e.tt, .int .i64 e.ts]
def within (n lo hi : Int) : Bool := decide (lo ≤ n) && decide (n ≤ hi)

set_option maxRecDepth 100000 in
set_option maxHeartbeats 1000000 in
theorem within_any (n lo hi : Int) (w : World) :
    Calls Try.prog 51 #[.int .i64 n, .int .i64 lo, .int .i64 hi] w fun e w' => e = .returned (.bool (within n lo hi)) ∧ w' = w := by
  unfold within
  go_enter Try.func51, Try.ntmps51
  by_cases h1 : lo ≤ n
  · have t1 : decide (lo ≤ n) = true := decide_eq_true h1
    go_wp2
    go_ret
    exact ⟨by simp [h1], rfl⟩
  · have t1 : decide (lo ≤ n) = false := decide_eq_false h1
    go_wp2
    go_ret
    exact ⟨by simp, rfl⟩
theorem okK_within (t s : Int) : okK t s = (within t 0 65535 && within s 0 2147483647) := by unfold okK within; simp [Bool.and_assoc]

set_option maxRecDepth 100000 in
set_option maxHeartbeats 1000000 in
theorem iskey_any (t s : Int) (w : World) :
    Calls Try.prog 50 #[.agg #[.int .i64 t, .int .i64 s]] w fun e w' => e = .returned (.bool (okK t s)) ∧ Gr w w' := by
  have W1 := Lib.hid (fun w => within_any t 0 65535 w)
  have W2 := Lib.hid (fun w => within_any s 0 2147483647 w)
  rw [okK_within]
  generalize within t 0 65535 = b1 at *
  generalize within s 0 2147483647 = b2 at *
  have G := Lib.hid ((Gr.refl w).alloc (.cells #[.int .i64 t, .int .i64 s] 24))
  go_enter Try.func50, Try.ntmps50
  cases b1
  · go_wp2_with (first | (go_at_call 51; (with_reducible refine (W1.out _).mono ?_); rintro e w2 ⟨rfl, rfl⟩))
    go_ret
    exact ⟨rfl, G.out⟩
  · go_wp2_with (first | (go_at_call 51; (with_reducible refine (W1.out _).mono ?_); rintro e w2 ⟨rfl, rfl⟩) | (go_at_call 51; (with_reducible refine (W2.out _).mono ?_); rintro e w2 ⟨rfl, rfl⟩))
    go_ret
    exact ⟨rfl, G.out⟩

set_option maxRecDepth 100000 in
set_option maxHeartbeats 1000000 in
theorem rkey_any (t s : Int) (w : World) :
    Calls Try.prog 52 #[.agg #[.int .i64 t, .int .i64 s]] w fun e w' => e = .returned (.bool (okK t s)) ∧ Gr w w' := by
  unfold okK
  have G := Lib.hid ((Gr.refl w).alloc (.cells #[.int .i64 t, .int .i64 s] 24))
  rcases Bool.eq_false_or_eq_true (decide (0 ≤ t)) with t1 | t1
  · rcases Bool.eq_false_or_eq_true (decide (t ≤ 65535)) with t2 | t2
    · rcases Bool.eq_false_or_eq_true (decide (0 ≤ s)) with t3 | t3
      · rcases Bool.eq_false_or_eq_true (decide (s ≤ 2147483647)) with t4 | t4
        · go_enter Try.func52, Try.ntmps52
          go_wp2
          go_ret
          exact ⟨by rw [t1, t2, t3, t4]; rfl, G.out⟩
        · go_enter Try.func52, Try.ntmps52
          go_wp2
          go_ret
          exact ⟨by rw [t1, t2, t3, t4]; rfl, G.out⟩
      · go_enter Try.func52, Try.ntmps52
        go_wp2
        go_ret
        exact ⟨by rw [t1, t2, t3]; rfl, G.out⟩
    · go_enter Try.func52, Try.ntmps52
      go_wp2
      go_ret
      exact ⟨by rw [t1, t2]; rfl, G.out⟩
  · go_enter Try.func52, Try.ntmps52
    go_wp2
    go_ret
    exact ⟨by rw [t1]; rfl, G.out⟩

/-- okE, as the program reckons it. -/
def kindP (k t s : Int) : Bool := if k = 1 ∨ k = 2 ∨ k = 3 ∨ k = 4 then decide (t = 0) && decide (s = 0) else if k = 5 ∨ k = 6 then okK t s else false
theorem okE_prog (e : Ev) : okE e = (okK e.kt e.ks && within e.em 1 2147483647 && within e.ti 0 120968639 && kindP e.ki e.tt e.ts) := by
  unfold okE within kindP
  by_cases h1 : 1 ≤ e.ki
  · by_cases h6 : e.ki ≤ 6
    · by_cases h5 : 5 ≤ e.ki
      · rw [if_pos h5, if_neg (by omega), if_pos (by omega)]
        simp [h1, h6, Bool.and_assoc]
      · rw [if_neg h5, if_pos (by omega)]
        simp [h1, h6, Bool.and_assoc]
    · rw [if_neg (show ¬ (e.ki = 1 ∨ e.ki = 2 ∨ e.ki = 3 ∨ e.ki = 4) by omega), if_neg (show ¬ (e.ki = 5 ∨ e.ki = 6) by omega)]
      simp [h6]
  · rw [if_neg (show ¬ (e.ki = 1 ∨ e.ki = 2 ∨ e.ki = 3 ∨ e.ki = 4) by omega), if_neg (show ¬ (e.ki = 5 ∨ e.ki = 6) by omega)]
    simp [h1]

set_option maxRecDepth 100000 in
set_option maxHeartbeats 4000000 in
theorem valid_any (e : Ev) (w : World) :
    Calls Try.prog 19 #[vE e] w fun r w' => r = .returned (.bool (okE e)) ∧ Gr w w' := by
  rw [okE_prog]
  obtain ⟨kt, ks, em, ti, ki, tt, ts⟩ := e
  show Calls _ _ #[.agg #[.int .i64 kt, .int .i64 ks, .int .i64 em, .int .i64 ti, .int .i64 ki, .int .i64 tt, .int .i64 ts]] w _
  simp only
  have K1 := Lib.hid (fun w => iskey_any kt ks w)
  have K2 := Lib.hid (fun w => iskey_any tt ts w)
  have W1 := Lib.hid (fun w => within_any em 1 2147483647 w)
  have W2 := Lib.hid (fun w => within_any ti 0 120968639 w)
  generalize okK kt ks = b1 at *
  generalize within em 1 2147483647 = b2 at *
  generalize within ti 0 120968639 = b3 at *
  have G := Lib.hid ((Gr.refl w).alloc (.cells #[.int .i64 kt, .int .i64 ks, .int .i64 em, .int .i64 ti, .int .i64 ki, .int .i64 tt, .int .i64 ts] 26))
  have cells : ∀ W, Gr (w.alloc (.cells #[.int .i64 kt, .int .i64 ks, .int .i64 em, .int .i64 ti, .int .i64 ki, .int .i64 tt, .int .i64 ts] 26)) W → W.cell? ⟨w.heap.size, 2, none⟩ = some (.int .i64 em) ∧ W.cell? ⟨w.heap.size, 3, none⟩ = some (.int .i64 ti) ∧ W.cell? ⟨w.heap.size, 4, none⟩ = some (.int .i64 ki) ∧ W.cell? ⟨w.heap.size, 5, none⟩ = some (.int .i64 tt) ∧ W.cell? ⟨w.heap.size, 6, none⟩ = some (.int .i64 ts) := fun W h => by
    have hb := h.below
    refine ⟨?_, ?_, ?_, ?_, ?_⟩ <;> refine (hb.cell (by simp)).trans ?_ <;> go_simp
  have HC := Lib.hid cells
  clear cells
  go_enter Try.func19, Try.ntmps19
  go_wp2_with fail
  refine (K1.out _).mono ?_
  rintro r w2 ⟨rfl, hw2⟩
  have G2 := Lib.hid (G.out.trans hw2)
  obtain ⟨c2, c3, c4, c5, c6⟩ := HC.out _ hw2
  clear HC hw2 K1 G
  cases b1
  · go_wp2_with fail
    go_ret
    exact ⟨rfl, G2.out⟩
  go_wp2_with fail
  refine (W1.out _).mono ?_
  rintro r w3 ⟨rfl, rfl⟩
  cases b2
  · go_wp2_with fail
    go_ret
    exact ⟨rfl, G2.out⟩
  go_wp2_with fail
  refine (W2.out _).mono ?_
  rintro r w4 ⟨rfl, rfl⟩
  cases b3
  · go_wp2_with fail
    go_ret
    exact ⟨rfl, G2.out⟩
  have keyed : ∀ k, (k = 5 ∨ k = 6) → kindP k tt ts = okK tt ts := fun k hk => by unfold kindP; rw [if_neg (by omega), if_pos hk]
  have zero : ∀ k, (k = 1 ∨ k = 2 ∨ k = 3 ∨ k = 4) → kindP k tt ts = (decide (tt = 0) && decide (ts = 0)) := fun k hk => by unfold kindP; rw [if_pos hk]
  have none_ : ∀ k, ¬ (k = 1 ∨ k = 2 ∨ k = 3 ∨ k = 4) → ¬ (k = 5 ∨ k = 6) → kindP k tt ts = false := fun k h1 h2 => by unfold kindP; rw [if_neg h1, if_neg h2]
  have KD := Lib.hid keyed
  have ZR := Lib.hid zero
  have NO := Lib.hid none_
  clear keyed zero none_
  by_cases k1 : ki = 1
  · subst k1
    have HZ := Lib.hid (ZR.out 1 (by decide))
    clear KD ZR NO K2 W1 W2
    by_cases h1 : tt = 0
    · subst h1
      by_cases h2 : ts = 0
      · subst h2
        go_wp2_with fail
        go_ret
        exact ⟨by rw [HZ.out]; rfl, G2.out⟩
      · have t2 : (ts == 0) = false := by simpa using h2
        have t3 := decide_eq_false h2
        go_wp2_with fail
        go_ret
        exact ⟨by rw [HZ.out, t3]; rfl, G2.out⟩
    · have t2 : (tt == 0) = false := by simpa using h1
      have t3 := decide_eq_false h1
      go_wp2_with fail
      go_ret
      exact ⟨by rw [HZ.out, t3]; rfl, G2.out⟩
  by_cases k2 : ki = 2
  · subst k2
    have HZ := Lib.hid (ZR.out 2 (by decide))
    clear KD ZR NO K2 W1 W2
    by_cases h1 : tt = 0
    · subst h1
      by_cases h2 : ts = 0
      · subst h2
        go_wp2_with fail
        go_ret
        exact ⟨by rw [HZ.out]; rfl, G2.out⟩
      · have t2 : (ts == 0) = false := by simpa using h2
        have t3 := decide_eq_false h2
        go_wp2_with fail
        go_ret
        exact ⟨by rw [HZ.out, t3]; rfl, G2.out⟩
    · have t2 : (tt == 0) = false := by simpa using h1
      have t3 := decide_eq_false h1
      go_wp2_with fail
      go_ret
      exact ⟨by rw [HZ.out, t3]; rfl, G2.out⟩
  by_cases k3 : ki = 3
  · subst k3
    have HZ := Lib.hid (ZR.out 3 (by decide))
    clear KD ZR NO K2 W1 W2
    by_cases h1 : tt = 0
    · subst h1
      by_cases h2 : ts = 0
      · subst h2
        go_wp2_with fail
        go_ret
        exact ⟨by rw [HZ.out]; rfl, G2.out⟩
      · have t2 : (ts == 0) = false := by simpa using h2
        have t3 := decide_eq_false h2
        go_wp2_with fail
        go_ret
        exact ⟨by rw [HZ.out, t3]; rfl, G2.out⟩
    · have t2 : (tt == 0) = false := by simpa using h1
      have t3 := decide_eq_false h1
      go_wp2_with fail
      go_ret
      exact ⟨by rw [HZ.out, t3]; rfl, G2.out⟩
  by_cases k4 : ki = 4
  · subst k4
    have HZ := Lib.hid (ZR.out 4 (by decide))
    clear KD ZR NO K2 W1 W2
    by_cases h1 : tt = 0
    · subst h1
      by_cases h2 : ts = 0
      · subst h2
        go_wp2_with fail
        go_ret
        exact ⟨by rw [HZ.out]; rfl, G2.out⟩
      · have t2 : (ts == 0) = false := by simpa using h2
        have t3 := decide_eq_false h2
        go_wp2_with fail
        go_ret
        exact ⟨by rw [HZ.out, t3]; rfl, G2.out⟩
    · have t2 : (tt == 0) = false := by simpa using h1
      have t3 := decide_eq_false h1
      go_wp2_with fail
      go_ret
      exact ⟨by rw [HZ.out, t3]; rfl, G2.out⟩
  by_cases k5 : ki = 5
  · subst k5
    have HZ := Lib.hid (KD.out 5 (by decide))
    clear KD ZR NO W1 W2
    go_wp2_with fail
    refine (K2.out _).mono ?_
    rintro r w5 ⟨rfl, hw5⟩
    have G5 := Lib.hid (G2.out.trans hw5)
    clear hw5
    go_wp2_with fail
    go_ret
    exact ⟨by rw [HZ.out]; simp, G5.out⟩
  by_cases k6 : ki = 6
  · subst k6
    have HZ := Lib.hid (KD.out 6 (by decide))
    clear KD ZR NO W1 W2
    go_wp2_with fail
    refine (K2.out _).mono ?_
    rintro r w5 ⟨rfl, hw5⟩
    have G5 := Lib.hid (G2.out.trans hw5)
    clear hw5
    go_wp2_with fail
    go_ret
    exact ⟨by rw [HZ.out]; simp, G5.out⟩
  have HZ := Lib.hid (NO.out ki (by omega) (by omega))
  have t1 : (ki == 1) = false := by simpa using k1
  have t2 : (ki == 2) = false := by simpa using k2
  have t3 : (ki == 3) = false := by simpa using k3
  have t4 : (ki == 4) = false := by simpa using k4
  have t5 : (ki == 5) = false := by simpa using k5
  have t6 : (ki == 6) = false := by simpa using k6
  clear KD ZR NO W1 W2 K2
  go_wp2_with fail
  go_ret
  exact ⟨by rw [HZ.out]; rfl, G2.out⟩
end Go.Proofs.Ytebdldinlodgpaa.Rc
