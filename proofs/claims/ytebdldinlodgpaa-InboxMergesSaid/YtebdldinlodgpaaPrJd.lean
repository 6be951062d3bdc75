/-
  Layer 7 (records): the contract of the reference's Valid. No condition.
-/
import Derived.Test.YtebdldinlodgpaaPrJc
namespace Go.Proofs.Ytebdldinlodgpaa.Rc
open Go Go.RowKit Go.Lib Go.Sort Go.Shelf Go.Proofs Go.Proofs.Ytebdldinlodgpaa Go.Proofs.Ytebdldinlodgpaa.Tp
set_option linter.unusedVariables false

theorem okE_not {e : Ev} (h : okK e.kt e.ks = false ∨ e.em < 1 ∨ 2147483647 < e.em ∨ e.ti < 0 ∨ 120968639 < e.ti ∨ e.ki < 1 ∨ 6 < e.ki) : okE e = false := by
  rcases h with h | h
  · unfold okE; rw [h]; rfl
  · rw [Bool.eq_false_iff]
    intro he
    have := okE_bd he
    omega
theorem okE_all {e : Ev} (h : okK e.kt e.ks = true) (h1 : 1 ≤ e.em) (h2 : e.em ≤ 2147483647) (h3 : 0 ≤ e.ti) (h4 : e.ti ≤ 120968639) (h5 : 1 ≤ e.ki) (h6 : e.ki ≤ 6) :
    okE e = if e.ki = 5 ∨ e.ki = 6 then okK e.tt e.ts else decide (e.tt = 0) && decide (e.ts = 0) := by
  rw [okE_prog, h]
  unfold within kindP
  rw [decide_eq_true (show 1 ≤ e.em by omega), decide_eq_true (show e.em ≤ 2147483647 by omega), decide_eq_true (show 0 ≤ e.ti by omega), decide_eq_true (show e.ti ≤ 120968639 by omega)]
  by_cases hk : e.ki = 5 ∨ e.ki = 6
  · rw [if_neg (by omega), if_pos hk, if_pos hk]; rfl
  · rw [if_pos (by omega), if_neg hk]; rfl

set_option maxRecDepth 100000 in
set_option maxHeartbeats 4000000 in
theorem rvalid_any (e : Ev) (w : World) :
    Calls Try.prog 20 #[vE e] w fun r w' => r = .returned (.bool (okE e)) ∧ Gr w w' := by
  have ALL := Lib.hid (fun h h1 h2 h3 h4 h5 h6 => okE_all (e := e) h h1 h2 h3 h4 h5 h6)
  have NOT := Lib.hid (fun h => okE_not (e := e) h)
  obtain ⟨kt, ks, em, ti, ki, tt, ts⟩ := e
  show Calls _ _ #[.agg #[.int .i64 kt, .int .i64 ks, .int .i64 em, .int .i64 ti, .int .i64 ki, .int .i64 tt, .int .i64 ts]] w _
  simp only at ALL NOT
  generalize okE ⟨kt, ks, em, ti, ki, tt, ts⟩ = B at *
  have K1 := Lib.hid (fun w => rkey_any kt ks w)
  have K2 := Lib.hid (fun w => rkey_any tt ts w)
  generalize okK kt ks = b1 at *
  generalize okK tt ts = b2 at *
  have G := Lib.hid ((Gr.refl w).alloc (.cells #[.int .i64 kt, .int .i64 ks, .int .i64 em, .int .i64 ti, .int .i64 ki, .int .i64 tt, .int .i64 ts] 26))
  have cells : ∀ W, Gr (w.alloc (.cells #[.int .i64 kt, .int .i64 ks, .int .i64 em, .int .i64 ti, .int .i64 ki, .int .i64 tt, .int .i64 ts] 26)) W → W.cell? ⟨w.heap.size, 2, none⟩ = some (.int .i64 em) ∧ W.cell? ⟨w.heap.size, 3, none⟩ = some (.int .i64 ti) ∧ W.cell? ⟨w.heap.size, 4, none⟩ = some (.int .i64 ki) ∧ W.cell? ⟨w.heap.size, 5, none⟩ = some (.int .i64 tt) ∧ W.cell? ⟨w.heap.size, 6, none⟩ = some (.int .i64 ts) := fun W h => by
    have hb := h.below
    refine ⟨?_, ?_, ?_, ?_, ?_⟩ <;> refine (hb.cell (by simp)).trans ?_ <;> go_simp
  have HC := Lib.hid cells
  clear cells
  go_enter Try.func20, Try.ntmps20
  go_wp2_with fail
  refine (K1.out _).mono ?_
  rintro r w2 ⟨rfl, hw2⟩
  have G2 := Lib.hid (G.out.trans hw2)
  obtain ⟨c2, c3, c4, c5, c6⟩ := HC.out _ hw2
  clear HC hw2 K1 G
  cases b1
  · have HB := Lib.hid (NOT.out (.inl rfl))
    clear ALL NOT
    go_wp2_with fail
    go_ret
    exact ⟨by rw [HB.out]; rfl, G2.out⟩
  by_cases h1 : em < 1
  · have d1 := decide_eq_true h1
    have HB := Lib.hid (NOT.out (.inr (.inl h1)))
    clear ALL NOT
    go_wp2_with fail
    go_ret
    exact ⟨by rw [HB.out]; rfl, G2.out⟩
  have d1 := decide_eq_false h1
  by_cases h2 : 2147483647 < em
  · have d2 := decide_eq_true h2
    have HB := Lib.hid (NOT.out (.inr (.inr (.inl h2))))
    clear ALL NOT
    go_wp2_with fail
    go_ret
    exact ⟨by rw [HB.out]; rfl, G2.out⟩
  have d2 := decide_eq_false h2
  by_cases h3 : ti < 0
  · have d3 := decide_eq_true h3
    have HB := Lib.hid (NOT.out (.inr (.inr (.inr (.inl h3)))))
    clear ALL NOT
    go_wp2_with fail
    go_ret
    exact ⟨by rw [HB.out]; rfl, G2.out⟩
  have d3 := decide_eq_false h3
  by_cases h4 : 120968639 < ti
  · have d4 := decide_eq_true h4
    have HB := Lib.hid (NOT.out (.inr (.inr (.inr (.inr (.inl h4))))))
    clear ALL NOT
    go_wp2_with fail
    go_ret
    exact ⟨by rw [HB.out]; rfl, G2.out⟩
  have d4 := decide_eq_false h4
  by_cases h5 : ki < 1
  · have d5 := decide_eq_true h5
    have HB := Lib.hid (NOT.out (.inr (.inr (.inr (.inr (.inr (.inl h5)))))))
    clear ALL NOT
    go_wp2_with fail
    go_ret
    exact ⟨by rw [HB.out]; rfl, G2.out⟩
  have d5 := decide_eq_false h5
  by_cases h6 : 6 < ki
  · have d6 := decide_eq_true h6
    have HB := Lib.hid (NOT.out (.inr (.inr (.inr (.inr (.inr (.inr h6)))))))
    clear ALL NOT
    go_wp2_with fail
    go_ret
    exact ⟨by rw [HB.out]; rfl, G2.out⟩
  have d6 := decide_eq_false h6
  have HA := Lib.hid (ALL.out rfl (by omega) (by omega) (by omega) (by omega) (by omega) (by omega))
  clear ALL NOT
  by_cases k5 : ki = 5
  · subst k5
    have HB := Lib.hid (show B = b2 by rw [HA.out]; simp)
    clear HA
    go_wp2_with fail
    refine (K2.out _).mono ?_
    rintro r w5 ⟨rfl, hw5⟩
    have G5 := Lib.hid (G2.out.trans hw5)
    clear hw5
    go_wp2_with fail
    go_ret
    exact ⟨by rw [HB.out]; rfl, G5.out⟩
  have t5 : (ki == 5) = false := by simpa using k5
  by_cases k6 : ki = 6
  · subst k6
    have HB := Lib.hid (show B = b2 by rw [HA.out]; simp)
    clear HA
    go_wp2_with fail
    refine (K2.out _).mono ?_
    rintro r w5 ⟨rfl, hw5⟩
    have G5 := Lib.hid (G2.out.trans hw5)
    clear hw5
    go_wp2_with fail
    go_ret
    exact ⟨by rw [HB.out]; rfl, G5.out⟩
  have t6 : (ki == 6) = false := by simpa using k6
  have HN := Lib.hid (show ¬ (ki = 5 ∨ ki = 6) by omega)
  by_cases z1 : tt = 0
  · subst z1
    by_cases z2 : ts = 0
    · subst z2
      go_wp2_with fail
      go_ret
      exact ⟨by rw [HA.out, if_neg HN.out]; rfl, G2.out⟩
    · have t2 : (ts == 0) = false := by simpa using z2
      have t3 := decide_eq_false z2
      go_wp2_with fail
      go_ret
      exact ⟨by rw [HA.out, if_neg HN.out, t3]; rfl, G2.out⟩
  · have t2 : (tt == 0) = false := by simpa using z1
    have t3 := decide_eq_false z1
    go_wp2_with fail
    go_ret
    exact ⟨by rw [HA.out, if_neg HN.out, t3]; rfl, G2.out⟩
end Go.Proofs.Ytebdldinlodgpaa.Rc
