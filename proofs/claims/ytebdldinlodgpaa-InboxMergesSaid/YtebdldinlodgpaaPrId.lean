/-
  Layer 8 (inbox): contracts of slices.IndexFunc and ContainsFunc at a list that came in, of check and of Merge. Conditions: the lists read as events.
-/
import Derived.Test.YtebdldinlodgpaaPrIc
namespace Go.Proofs.Ytebdldinlodgpaa.Ib
open Go Go.RowKit Go.Lib Go.Sort Go.Shelf Go.Proofs Go.Proofs.Ytebdldinlodgpaa Go.Proofs.Ytebdldinlodgpaa.Tp Go.Proofs.Ytebdldinlodgpaa.Gm Go.Proofs.Ytebdldinlodgpaa.Rc Go.Proofs.Ytebdldinlodgpaa.SE
set_option linter.unusedVariables false

/-- A closure that tells whether an element is meant, in whatever world that only grew. -/
def PredR (f : Nat) (lb : Array Value) (p : Ev → Bool) (w : World) : Prop :=
  (∀ args w, (callFunc f args).run Try.prog w = .ok (.enter f args) w) ∧ ∀ (c : Ev) (W : World), Gr w W → Calls Try.prog f (#[vC c] ++ lb) W fun e w' => e = .returned (.bool (p c)) ∧ Gr W w'
def IdxL (p : Ev → Bool) (cs : List Ev) (w : World) (e : Ending) (w' : World) : Prop :=
  Gr w w' ∧ ((e = .returned (.int .i64 (-1)) ∧ cs.any p = false) ∨ ∃ k : Nat, e = .returned (.int .i64 k) ∧ cs.any p = true)
theorem any_no (p : Ev → Bool) (cs : List Ev) (n : Nat) (hn : cs.length = n) (h : ∀ j, j < n → p cs[j]! = false) : cs.any p = false := by
  rw [List.any_eq_false]
  intro x hx
  obtain ⟨i, hi, rfl⟩ := List.mem_iff_getElem.1 hx
  have := h i (by omega)
  rw [getElem!_pos cs i hi] at this
  simp [this]
theorem any_yes (p : Ev → Bool) (cs : List Ev) (k : Nat) (hk : k < cs.length) (h : p cs[k]! = true) : cs.any p = true := by
  rw [List.any_eq_true]
  exact ⟨cs[k], List.getElem_mem hk, by rwa [getElem!_pos cs k hk] at h⟩
set_option maxRecDepth 100000 in
set_option maxHeartbeats 2000000 in
theorem idx_lst (f : Nat) (lb : Array Value) (p : Ev → Bool) (a : Option Addr) (n cap : Nat) (cs : List Ev) (w : World) (hr : Lst w a n cap cs) (hp : PredR f lb p w) :
    Calls Try.prog 89 #[.slice a n cap, .func (.func f) #[] lb] w (IdxL p cs w) := by
  have HR := Lib.hid hr
  have HL := Lib.hid hr.1.1
  have hn : n ≤ 9223372036854775807 := hr.2.2
  have eg := hp.1
  have HP := Lib.hid hp.2
  clear hr hp
  go_enter Try.func89, Try.ntmps89
  go_wp2_with fail
  go_loopw [8] (fun x wr => ∃ k : Nat, k ≤ n ∧ x = .int .i64 k ∧ Hid (∀ j, j < k → p cs[j]! = false) ∧ Hid (Gr w wr)) (fun x _ => n - (intOf x).toNat)
  case atStart => exact ⟨0, by omega, rfl, Lib.hid (fun j hj => by omega), Lib.hid (Gr.refl w)⟩
  case round =>
    obtain ⟨k, hk, rfl, HA, HG⟩ := hrel
    by_cases hlt : k < n
    · have t0 : decide ((k : Int) < (n : Int)) = true := decide_eq_true (by omega)
      have i1 : (k : Int) < (n : Int) := by omega
      obtain ⟨x, hx0, _, hc⟩ := (HR.out.more HG.out.below).1.2 (by omega)
      subst hx0
      obtain ⟨c0, c1, c2, c3, c4, c5, c6⟩ := hc k hlt
      have C := Lib.hid (HP.out cs[k]! wr HG.out)
      have HT : Hid (∀ b, p cs[k]! = b → (b = true → cs.any p = true) ∧ (b = false → ∀ j, j < k + 1 → p cs[j]! = false)) := Lib.hid fun b hb => ⟨fun h => any_yes p cs k (by rw [HL.out]; exact hlt) (hb.trans h), fun h j hj => by
        by_cases e : j < k
        · exact HA.out j e
        · rw [show j = k by omega]; exact hb.trans h⟩
      clear hc
      generalize cs[k]! = c at *
      unfold vC at C
      cases hb : p c with
      | true =>
        rw [hb] at C
        have HY := Lib.hid ((HT.out true hb).1 rfl)
        clear hb HT
        go_wp2_with (go_at_fn f; refine C.out.mono ?_; rintro e w' ⟨rfl, hw'⟩)
        go_ret
        exact ⟨HG.out.trans hw', .inr ⟨k, rfl, HY.out⟩⟩
      | false =>
        rw [hb] at C
        have HY := Lib.hid ((HT.out false hb).2 rfl)
        clear hb HT
        go_wp2_with (go_at_fn f; refine C.out.mono ?_; rintro e w' ⟨rfl, hw'⟩)
        go_roundw
        case rel => exact ⟨k + 1, by omega, by go_num, HY, Lib.hid (HG.out.trans hw')⟩
        case measure => simp [intOf]; omega
    · obtain rfl : k = n := by omega
      have t0 : decide ((k : Int) < (k : Int)) = false := decide_eq_false (by omega)
      have HN := Lib.hid (any_no p cs k HL.out HA.out)
      go_wp2_with fail
      go_ret
      exact ⟨HG.out, .inl ⟨rfl, HN.out⟩⟩
set_option maxRecDepth 100000 in
set_option maxHeartbeats 2000000 in
theorem contains_lst (f : Nat) (lb : Array Value) (p : Ev → Bool) (a : Option Addr) (n cap : Nat) (cs : List Ev) (w : World) (hr : Lst w a n cap cs) (hp : PredR f lb p w) :
    Calls Try.prog 82 #[.slice a n cap, .func (.func f) #[] lb] w fun e w' => e = .returned (.bool (cs.any p)) ∧ Gr w w' := by
  have C := Lib.hid (idx_lst f lb p a n cap cs w hr hp)
  unfold IdxL at C
  generalize cs.any p = B at *
  clear hr hp
  go_enter Try.func82, Try.ntmps82
  go_wp2_with fail
  refine C.out.mono ?_
  rintro e w1 ⟨hG, ⟨rfl, hA⟩ | ⟨k, rfl, hA⟩⟩
  · subst hA
    clear C
    go_wp2_with fail
    go_ret
    exact ⟨rfl, hG⟩
  · subst hA
    have t : decide ((0 : Int) ≤ (k : Int)) = true := decide_eq_true (by omega)
    clear C
    go_wp2_with fail
    go_ret
    exact ⟨rfl, hG⟩
set_option maxRecDepth 100000 in
set_option maxHeartbeats 1000000 in
theorem cl_valid (c : Ev) (w : World) : Calls Try.prog 83 #[vC c] w fun e w' => e = .returned (.bool (!okE c)) ∧ Gr w w' := by
  have V := Lib.hid (fun W => valid_any c W)
  obtain ⟨a0, a1, a2, a3, a4, a5, a6⟩ := c
  unfold vC
  unfold vE at V
  simp only at V ⊢
  generalize okE ⟨a0, a1, a2, a3, a4, a5, a6⟩ = B at *
  go_enter Try.func83, Try.ntmps83
  go_wp2_with fail
  refine (V.out _).mono ?_
  rintro e w1 ⟨rfl, g1⟩
  have G := Lib.hid (((Gr.refl w).alloc (.cells #[.int .i64 a0, .int .i64 a1, .int .i64 a2, .int .i64 a3, .int .i64 a4, .int .i64 a5, .int .i64 a6] 26)).trans g1)
  clear g1
  go_wp2_with fail
  go_ret
  exact ⟨by cases B <;> rfl, G.out⟩
theorem predOk (w : World) : PredR 83 #[] (fun c => !okE c) w := ⟨enters_of Try.func83 (by kernel_rfl) rfl, fun c W _ => cl_valid c W⟩
/-! ## check -/
def badL (l : List Ev) : Bool := l.any fun c => !okE c
theorem badL_ok {l : List Ev} (h : badL l = false) : ∀ e ∈ l, okE e = true := by
  unfold badL at h
  rw [List.any_eq_false] at h
  intro e he
  have := h e he
  simpa using this
def chkE (ls : List SL) : Int := if ls.any (fun x => decide (1024 < x.n)) then 3 else if ls.any (fun x => badL x.l) then 1 else 0
theorem any_take {α : Type} [Inhabited α] (q : α → Bool) (l : List α) (k : Nat) (hk : k < l.length) : (l.take (k + 1)).any q = ((l.take k).any q || q l[k]!) := by
  rw [List.take_succ_eq_append_getElem hk, getElem!_pos l k hk, List.any_append, List.any_cons, List.any_nil, Bool.or_false]
theorem any_of_take {α : Type} (q : α → Bool) (l : List α) (k : Nat) (h : (l.take k).any q = true) : l.any q = true := by
  rw [List.any_eq_true] at h ⊢
  obtain ⟨x, hx, hq⟩ := h
  exact ⟨x, List.mem_of_mem_take hx, hq⟩
set_option maxRecDepth 100000 in
set_option maxHeartbeats 4000000 in
theorem check_any (s k c : Nat) (ls : List SL) (hk : ls.length = k) (hk2 : k ≤ 1000) (w : World) (hp : LL w s ls) :
    Calls Try.prog 62 #[.slice (some ⟨s, 0, none⟩) k c] w fun e w' => e = .returned (.int .i64 (chkE ls)) ∧ Gr w w' := by
  have HP := Lib.hid hp
  have HK := Lib.hid hk
  have CC := Lib.hid (fun a n cap cs W h => contains_lst 83 #[] (fun c => !okE c) a n cap cs W h (predOk W))
  clear hp hk
  go_enter Try.func62, Try.ntmps62
  go_wp2_with fail
  go_loop [9] (fun y => ∃ i : Nat, i ≤ k ∧ y = .int .i64 i ∧ Hid ((ls.take i).any (fun x => decide (1024 < x.n)) = false)) (fun y => k - (intOf y).toNat)
  case atStart => exact ⟨0, by omega, rfl, Lib.hid (by simp)⟩
  case round =>
    obtain ⟨i, hi, rfl, HA⟩ := hrel
    by_cases hlt : i < k
    · have t0 : decide ((i : Int) < (k : Int)) = true := decide_eq_true (by omega)
      have i1 : (i : Int) < (k : Int) := by omega
      have c := HP.out.cell i (by rw [HK.out]; exact hlt)
      have E := Lib.hid (any_take (fun x : SL => decide (1024 < x.n)) ls i (by rw [HK.out]; exact hlt))
      have ET := Lib.hid (fun h => any_of_take (fun x : SL => decide (1024 < x.n)) ls (i + 1) h)
      generalize ls[i]! = x at *
      obtain ⟨a, n, cc, l⟩ := x
      simp only at c E
      by_cases hb : 1024 < n
      · have t1 : decide ((1024 : Int) < (n : Int)) = true := decide_eq_true (by omega)
        have t2 : decide (1024 < n) = true := decide_eq_true hb
        have HR : Hid (chkE ls = 3) := Lib.hid (by unfold chkE; rw [ET.out (by rw [E.out, t2]; simp)]; rfl)
        go_wp2_with fail
        go_ret
        exact ⟨retI HR.out.symm, Gr.refl _⟩
      · have t1 : decide ((1024 : Int) < (n : Int)) = false := decide_eq_false (by omega)
        have t2 : decide (1024 < n) = false := decide_eq_false hb
        have HA2 : Hid ((ls.take (i + 1)).any (fun x => decide (1024 < x.n)) = false) := Lib.hid (by rw [E.out, HA.out, t2]; rfl)
        clear HA E ET
        go_wp2_with fail
        go_round
        case rel => exact ⟨i + 1, by omega, by go_num, HA2⟩
        case measure => simp [intOf]; omega
    · obtain rfl : i = k := by omega
      have t0 : decide ((i : Int) < (i : Int)) = false := decide_eq_false (by omega)
      have H3 : Hid (ls.any (fun x => decide (1024 < x.n)) = false) := Lib.hid (by have := HA.out; rwa [List.take_of_length_le (by rw [HK.out]; exact Nat.le_refl _)] at this)
      clear HA
      go_wp2_with fail
      go_loopw [19] (fun y wr => ∃ j : Nat, j ≤ i ∧ y = .int .i64 j ∧ Hid ((ls.take j).any (fun x => badL x.l) = false) ∧ Hid (Gr w wr)) (fun y _ => i - (intOf y).toNat)
      case atStart => exact ⟨0, by omega, rfl, Lib.hid (by simp), Lib.hid (Gr.refl _)⟩
      case round =>
        obtain ⟨j, hj, rfl, HA, HG⟩ := hrel
        by_cases hlt2 : j < i
        · have t1 : decide ((j : Int) < (i : Int)) = true := decide_eq_true (by omega)
          have i1 : (j : Int) < (i : Int) := by omega
          have HPr := Lib.hid (HP.out.more HG.out.below)
          have hj2 : j < ls.length := by rw [HK.out]; exact hlt2
          have c := HPr.out.cell j hj2
          have L := Lib.hid (HPr.out.lst j hj2)
          have E := Lib.hid (any_take (fun x : SL => badL x.l) ls j hj2)
          have ET := Lib.hid (fun h => any_of_take (fun x : SL => badL x.l) ls (j + 1) h)
          clear HPr hj2
          generalize ls[j]! = x at *
          obtain ⟨a, n, cc, l⟩ := x
          simp only at c E L
          have CL := Lib.hid (CC.out a n cc l wr L.out)
          have BE := Lib.hid (show (l.any fun c => !okE c) = badL l from rfl)
          rw [BE.out] at CL
          cases hb : badL l with
          | true =>
            rw [hb] at CL
            have HR : Hid (chkE ls = 1) := Lib.hid (by unfold chkE; rw [H3.out, ET.out (by rw [E.out, hb]; simp)]; rfl)
            clear hb E ET BE
            go_wp2_with fail
            refine CL.out.mono ?_
            rintro e w2 ⟨rfl, g2⟩
            go_wp2_with fail
            go_ret
            exact ⟨retI HR.out.symm, HG.out.trans g2⟩
          | false =>
            rw [hb] at CL
            have HA2 : Hid ((ls.take (j + 1)).any (fun x => badL x.l) = false) := Lib.hid (by rw [E.out, HA.out, hb]; rfl)
            clear hb E ET BE HA
            go_wp2_with fail
            refine CL.out.mono ?_
            rintro e w2 ⟨rfl, g2⟩
            go_wp2_with fail
            go_roundw
            case rel => exact ⟨j + 1, by omega, by go_num, HA2, Lib.hid (HG.out.trans g2)⟩
            case measure => simp [intOf]; omega
        · obtain rfl : j = i := by omega
          have t1 : decide ((j : Int) < (j : Int)) = false := decide_eq_false (by omega)
          have HR : Hid (chkE ls = 0) := Lib.hid (by
            have := HA.out
            rw [List.take_of_length_le (by rw [HK.out]; exact Nat.le_refl _)] at this
            unfold chkE
            rw [H3.out, this]; rfl)
          go_wp2_with fail
          go_ret
          exact ⟨retI HR.out.symm, HG.out⟩
end Go.Proofs.Ytebdldinlodgpaa.Ib
