/-
  Layer 3 (calendar): the contract of Parse. Conditions: the string takes at most 2^48 bytes; the listed variables read as the program's text lays them.
-/
import Derived.Test.YtfoocingingpcaaDoorPrTx
import Derived.Test.YtfoocingingpcaaDoorPrCb
namespace Go.Proofs.YtfoocingingpcaaDoor
open Go Go.RowKit Go.Lib

theorem ba_list (s : ByteArray) : s.toList = s.data.toList := by
  simp [Lib.toList_data]
theorem ne_list {a b : ByteArray} (h : ¬ a = b) : (a.toList == b.toList) = false := by
  rw [ba_list, ba_list]
  simp only [beq_eq_false_iff_ne, ne_eq]
  exact fun e => h (by obtain ⟨⟨a⟩⟩ := a; obtain ⟨⟨b⟩⟩ := b; simpa using e)

/-- What Parse gives: the day of a date whose text this is; or no day, if it is no date's text. -/
def PR (l : List UInt8) (D : Int) (ok : Bool) : Prop :=
  (ok = true ∧ ∃ y m d, Cal.Is y m d ∧ l = dateL y m d ∧ D = Cal.dayT y m d) ∨ (ok = false ∧ D = 0 ∧ ∀ y m d, Cal.Is y m d → l ≠ dateL y m d)
theorem is_bd {y m d : Int} (h : Cal.Is y m d) : 1970 ≤ y ∧ y ≤ 2199 ∧ 1 ≤ m ∧ m ≤ 12 ∧ 1 ≤ d ∧ d ≤ 31 := by
  have := Cal.dm_bd y (m - 1)
  exact ⟨h.y0, h.y1, h.k0, h.k1, h.d0, by have := h.d1; omega⟩
theorem dateL_len {y m d : Int} (h : Cal.Is y m d) : (dateL y m d).length = 10 := by
  obtain ⟨y0, y1, m0, m1, d0, d1⟩ := is_bd h
  obtain ⟨y, rfl⟩ := Int.eq_ofNat_of_zero_le (show 0 ≤ y by omega)
  obtain ⟨m, rfl⟩ := Int.eq_ofNat_of_zero_le (show 0 ≤ m by omega)
  obtain ⟨d, rfl⟩ := Int.eq_ofNat_of_zero_le (show 0 ≤ d by omega)
  rw [dateL_eq y m d (by omega) (by omega) (by omega) (by omega)]; rfl
/-- The parts of a date's text spell its numbers. -/
theorem parts_of {b0 b1 b2 b3 b4 b5 b6 b7 b8 b9 : UInt8} {y m d : Int} (h : Cal.Is y m d) (e : [b0, b1, b2, b3, b4, b5, b6, b7, b8, b9] = dateL y m d) :
    atoiAll [b0, b1, b2, b3] = .ok y ∧ atoiAll [b5, b6] = .ok m ∧ atoiAll [b8, b9] = .ok d := by
  obtain ⟨y0, y1, m0, m1, d0, d1⟩ := is_bd h
  obtain ⟨y, rfl⟩ := Int.eq_ofNat_of_zero_le (show 0 ≤ y by omega)
  obtain ⟨m, rfl⟩ := Int.eq_ofNat_of_zero_le (show 0 ≤ m by omega)
  obtain ⟨d, rfl⟩ := Int.eq_ofNat_of_zero_le (show 0 ≤ d by omega)
  rw [dateL_eq y m d (by omega) (by omega) (by omega) (by omega)] at e
  simp only [List.cons.injEq, and_true] at e
  obtain ⟨rfl, rfl, rfl, rfl, rfl, rfl, rfl, rfl, rfl, rfl⟩ := e
  refine ⟨?_, ?_, ?_⟩
  · rw [← itoa4 y (by omega) (by omega)]; exact atoi_itoa _ (by omega) (by omega)
  · rw [← twoL2 m (by omega)]; exact atoi2 m (by omega)
  · rw [← twoL2 d (by omega)]; exact atoi2 d (by omega)
theorem dateL_inj {y m d y' m' d' : Int} (h : Cal.Is y m d) (h' : Cal.Is y' m' d') (e : dateL y m d = dateL y' m' d') : y = y' ∧ m = m' ∧ d = d' := by
  have hl := dateL_len h
  rcases hd : dateL y m d with _ | ⟨b0, _ | ⟨b1, _ | ⟨b2, _ | ⟨b3, _ | ⟨b4, _ | ⟨b5, _ | ⟨b6, _ | ⟨b7, _ | ⟨b8, _ | ⟨b9, _ | ⟨b10, l⟩⟩⟩⟩⟩⟩⟩⟩⟩⟩⟩
  case cons.cons.cons.cons.cons.cons.cons.cons.cons.cons.nil =>
    obtain ⟨p1, p2, p3⟩ := parts_of h hd.symm
    obtain ⟨q1, q2, q3⟩ := parts_of h' (hd.symm.trans e)
    rw [p1] at q1; rw [p2] at q2; rw [p3] at q3
    injection q1 with q1; injection q2 with q2; injection q3 with q3
    exact ⟨q1, q2, q3⟩
  all_goals (rw [hd] at hl; simp at hl)
theorem PR.same {l : List UInt8} {D D' : Int} {ok ok' : Bool} (h : PR l D ok) (h' : PR l D' ok') : D = D' ∧ ok = ok' := by
  rcases h with ⟨rfl, y, m, d, hi, hl, rfl⟩ | ⟨rfl, rfl, hn⟩ <;> rcases h' with ⟨rfl, y', m', d', hi', hl', rfl⟩ | ⟨rfl, rfl, hn'⟩
  · obtain ⟨rfl, rfl, rfl⟩ := dateL_inj hi hi' (hl.symm.trans hl')
    exact ⟨rfl, rfl⟩
  · exact absurd hl (hn' _ _ _ hi)
  · exact absurd hl' (hn _ _ _ hi')
  · exact ⟨rfl, rfl⟩
theorem ten_of {s : ByteArray} (h : s.size = 10) : ∃ b0 b1 b2 b3 b4 b5 b6 b7 b8 b9, s = ⟨#[b0, b1, b2, b3, b4, b5, b6, b7, b8, b9]⟩ := by
  obtain ⟨⟨l⟩⟩ := s
  have hl : l.length = 10 := h
  rcases l with _ | ⟨b0, _ | ⟨b1, _ | ⟨b2, _ | ⟨b3, _ | ⟨b4, _ | ⟨b5, _ | ⟨b6, _ | ⟨b7, _ | ⟨b8, _ | ⟨b9, _ | ⟨b10, l⟩⟩⟩⟩⟩⟩⟩⟩⟩⟩⟩
  case cons.cons.cons.cons.cons.cons.cons.cons.cons.cons.nil => exact ⟨b0, b1, b2, b3, b4, b5, b6, b7, b8, b9, rfl⟩
  all_goals simp at hl
/-- Parse's three parts. -/
theorem ext_parts {s : ByteArray} {b0 b1 b2 b3 b4 b5 b6 b7 b8 b9 : UInt8} (h : s = ⟨#[b0, b1, b2, b3, b4, b5, b6, b7, b8, b9]⟩) :
    (s.extract 0 4).data.toList = [b0, b1, b2, b3] ∧ (s.extract 5 7).data.toList = [b5, b6] ∧ (s.extract 8 10).data.toList = [b8, b9] := by
  subst h; simp
theorem fmt_is (y k d : Int) (F : ByteArray) (h : Cal.Is y k d) (hF : (⟨(dateL y k d).toArray⟩ : ByteArray) = F) (w : World) (hok : OKC w) :
    Calls Tryd.prog 43 #[.int .i64 (Cal.dayT y k d)] w fun e w' => e = .returned (.string F) ∧ Below w.heap.size w w' := by
  have := fmt_yes _ _ _ _ h.date w hok
  rw [show k - 1 + 1 = k by omega, show d - 1 + 1 = d by omega, hF] at this
  exact this
/-- What a Parse returns. -/
def ParR (s : ByteArray) (w : World) (e : Ending) (w' : World) : Prop := ∃ (D : Int) (ok : Bool), e = .returned (.tuple #[.int .i64 D, .bool ok]) ∧ PR s.data.toList D ok ∧ Below w.heap.size w w'
theorem PR.no_len {s : ByteArray} (h : s.size ≠ 10) : PR s.data.toList 0 false :=
  .inr ⟨rfl, rfl, fun y m d hi e => h (by have := dateL_len hi; rw [← e] at this; simpa using this)⟩

set_option maxRecDepth 100000 in
set_option maxHeartbeats 2000000 in
theorem cparse_any (s : ByteArray) (hs : s.size ≤ 281474976710656) (w : World) (hok : OKT w) :
    Calls Tryd.prog 41 #[.string s] w (ParR s w) := by
  by_cases h10 : s.size = 10
  · obtain ⟨b0, b1, b2, b3, b4, b5, b6, b7, b8, b9, hb⟩ := ten_of h10
    obtain ⟨x1, x2, x3⟩ := ext_parts hb
    have hl : s.data.toList = [b0, b1, b2, b3, b4, b5, b6, b7, b8, b9] := by rw [hb]
    have HX := Lib.hid (And.intro hl (And.intro x1 (And.intro x2 x3)))
    have e1 : (s.extract 0 4).size = 4 := by simp [h10]
    have e2 : (s.extract 5 7).size = 2 := by simp [h10]
    have e3 : (s.extract 8 10).size = 2 := by simp [h10]
    clear hb hl x1 x2 x3
    go_enter Tryd.func41, Tryd.ntmps41
    go_wp2_with fail
    refine (atoi_any _ (by omega) _ hok).mono ?_
    rintro e w1 ⟨v1, z1, rfl, n1, f1, g1, hw1⟩
    have ok1 := hok.below hw1
    have N1 := Lib.hid n1
    clear n1
    go_wp2_with fail
    refine (atoi_any _ (by omega) _ ok1).mono ?_
    rintro e w2 ⟨v2, z2, rfl, n2, f2, g2, hw2⟩
    have ok2 := ok1.below hw2
    have N2 := Lib.hid n2
    have hw12 := hw1.trans (hw2.mono hw1.size)
    clear n2 hw1 hw2 ok1
    go_wp2_with fail
    refine (atoi_any _ (by omega) _ ok2).mono ?_
    rintro e w3 ⟨v3, z3, rfl, n3, f3, g3, hw3⟩
    have ok3 := ok2.below hw3
    have N3 := Lib.hid n3
    have hw13 := hw12.trans (hw3.mono hw12.size)
    clear n3 hw12 hw3 ok2
    have U : Hid (∀ y m d, Cal.Is y m d → s.data.toList = dateL y m d → v1 = y ∧ v2 = m ∧ v3 = d) := Lib.hid (fun y m d hi e => by
      obtain ⟨hl, x1, x2, x3⟩ := HX.out
      obtain ⟨p1, p2, p3⟩ := parts_of hi (hl.symm.trans e)
      exact ⟨N1.out _ (by rw [x1]; exact p1), N2.out _ (by rw [x2]; exact p2), N3.out _ (by rw [x3]; exact p3)⟩)
    clear N1 N2 N3 HX
    by_cases hI : Cal.Is v1 v2 v3
    · have HI := Lib.hid hI
      obtain ⟨F, hF⟩ : ∃ F, (⟨(dateL v1 v2 v3).toArray⟩ : ByteArray) = F := ⟨_, rfl⟩
      have HF := Lib.hid hF
      clear hI hF
      by_cases hE : F = s
      · subst hE
        go_wp2_with (go_at_call 22; (with_reducible refine (day_yes _ _ _ HI.out _ ok3.okc.lg).mono ?_); rintro e w' ⟨rfl, rfl⟩)
        refine (fmt_is _ _ _ _ HI.out HF.out _ ok3.okc).mono ?_
        rintro e w4 ⟨rfl, hw4⟩
        have hw14 := hw13.trans (hw4.mono hw13.size)
        clear hw13 hw4 ok3
        go_wp2_with fail
        go_ret2
        exact ⟨_, true, rfl, .inl ⟨rfl, v1, v2, v3, HI.out, by rw [← HF.out], rfl⟩, hw14⟩
      · have hE1 := ne_list hE
        have P0 : Hid (PR s.data.toList 0 false) := Lib.hid (.inr ⟨rfl, rfl, fun y m d hi e => by
          obtain ⟨rfl, rfl, rfl⟩ := U.out y m d hi e
          exact hE (by rw [← HF.out, ← e])⟩)
        clear hE U
        go_wp2_with (go_at_call 22; (with_reducible refine (day_yes _ _ _ HI.out _ ok3.okc.lg).mono ?_); rintro e w' ⟨rfl, rfl⟩)
        refine (fmt_is _ _ _ _ HI.out HF.out _ ok3.okc).mono ?_
        rintro e w4 ⟨rfl, hw4⟩
        have hw14 := hw13.trans (hw4.mono hw13.size)
        clear hw13 hw4 ok3
        go_wp2_with fail
        go_ret2
        exact ⟨0, false, rfl, P0.out, hw14⟩
    · have P0 : Hid (PR s.data.toList 0 false) := Lib.hid (.inr ⟨rfl, rfl, fun y m d hi e => by
        obtain ⟨rfl, rfl, rfl⟩ := U.out y m d hi e
        exact hI hi⟩)
      have HI := Lib.hid hI
      clear hI U
      go_wp2_with (go_at_call 22; (with_reducible refine (day_no _ _ _ f1 g1 f2 g2 HI.out _ ok3.okc.lg).mono ?_); rintro e w' ⟨rfl, rfl⟩)
      go_ret2
      exact ⟨0, false, rfl, P0.out, hw13⟩
  · go_enter Tryd.func41, Tryd.ntmps41
    go_wp2_with fail
    go_ret2
    exact ⟨0, false, rfl, PR.no_len h10, Below.refl _ _⟩
end Go.Proofs.YtfoocingingpcaaDoor
