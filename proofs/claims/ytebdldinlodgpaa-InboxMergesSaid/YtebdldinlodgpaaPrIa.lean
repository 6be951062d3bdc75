/-
  Layer 8 (inbox): the contracts of cmp.Compare and cmp.Or at int, of compareKeys and of Compare: the order of events. No condition.
-/
import Derived.Test.YtebdldinlodgpaaPrIe
import Derived.Test.YtebdldinlodgpaaPrQg
namespace Go.Proofs.Ytebdldinlodgpaa.Ib
open Go Go.RowKit Go.Lib Go.Sort Go.Shelf Go.Proofs Go.Proofs.Ytebdldinlodgpaa Go.Proofs.Ytebdldinlodgpaa.Tp Go.Proofs.Ytebdldinlodgpaa.Gm Go.Proofs.Ytebdldinlodgpaa.Rc
set_option linter.unusedVariables false

set_option maxHeartbeats 1000000 in
theorem nan_any (x : Int) (w : World) : Calls Try.prog 78 #[.int .i64 x] w fun e w' => e = .returned (.bool false) ∧ w' = w := by
  have t : (x != x) = false := by simp
  go_enter Try.func78, Try.ntmps78
  go_wp2
  go_ret
  exact ⟨by simp, rfl⟩
set_option maxHeartbeats 1000000 in
theorem comp_any (x y : Int) (w : World) : Calls Try.prog 58 #[.int .i64 x, .int .i64 y] w fun e w' => e = .returned (.int .i64 (cmpI x y)) ∧ w' = w := by
  have N := Lib.hid (fun x W => nan_any x W)
  rcases Int.lt_trichotomy x y with h | h | h
  · have e : cmpI x y = -1 := by unfold cmpI; rw [if_pos h]
    have t : decide (x < y) = true := decide_eq_true h
    rw [e]
    clear e
    go_enter Try.func58, Try.ntmps58
    go_wp2_with (go_at_call 78; (with_reducible refine (N.out _ _).mono ?_); rintro e w2 ⟨rfl, rfl⟩)
    go_ret
    exact ⟨rfl, rfl⟩
  · subst h
    have e : cmpI x x = 0 := (cmpI_zero x x).2 rfl
    have t : decide (x < x) = false := decide_eq_false (by omega)
    rw [e]
    clear e
    go_enter Try.func58, Try.ntmps58
    go_wp2_with (go_at_call 78; (with_reducible refine (N.out _ _).mono ?_); rintro e w2 ⟨rfl, rfl⟩)
    go_ret
    exact ⟨rfl, rfl⟩
  · have e : cmpI x y = 1 := by unfold cmpI; rw [if_neg (by omega), if_pos h]
    have t : decide (x < y) = false := decide_eq_false (by omega)
    have t2 : decide (y < x) = true := decide_eq_true h
    rw [e]
    clear e
    go_enter Try.func58, Try.ntmps58
    go_wp2_with (go_at_call 78; (with_reducible refine (N.out _ _).mono ?_); rintro e w2 ⟨rfl, rfl⟩)
    go_ret
    exact ⟨rfl, rfl⟩
theorem retI {a b : Int} (h : a = b) : Ending.returned (.int .i64 a) = .returned (.int .i64 b) := by rw [h]
/-- The first number that is not 0. -/
def orL : List Int → Int
  | [] => 0
  | x :: l => if x ≠ 0 then x else orL l
theorem orL_zero (l : List Int) (k : Nat) (h : ∀ j, j < k → l[j]! = 0) (hk : k ≤ l.length) : orL l = orL (l.drop k) := by
  induction k generalizing l with
  | zero => rfl
  | succ k ih =>
    cases l with
    | nil => simp at hk
    | cons x l =>
      have h0 : x = 0 := by simpa using h 0 (by omega)
      rw [orL, if_neg (by simpa using h0), List.drop_succ_cons]
      exact ih l (fun j hj => by simpa using h (j + 1) (by omega)) (by simpa using hk)
set_option maxHeartbeats 2000000 in
theorem or_any (g n cap : Nat) (vs : List Int) (hn : vs.length = n) (hn2 : n ≤ 1000) (w : World) (hc : ∀ i, i < n → w.cell? ⟨g, i, none⟩ = some (.int .i64 vs[i]!)) :
    Calls Try.prog 56 #[.slice (some ⟨g, 0, none⟩) n cap] w fun e w' => e = .returned (.int .i64 (orL vs)) ∧ w' = w := by
  have HC := Lib.hid hc
  have HN := Lib.hid hn
  clear hc hn
  go_enter Try.func56, Try.ntmps56
  go_wp2_with fail
  go_loop [8] (fun z => ∃ k : Nat, k ≤ n ∧ z = .int .i64 k ∧ Hid (∀ j, j < k → vs[j]! = 0)) (fun z => n - (intOf z).toNat)
  case atStart => exact ⟨0, by omega, rfl, Lib.hid (fun j hj => by omega)⟩
  case round =>
    obtain ⟨k, hk, rfl, HZ⟩ := hrel
    by_cases hlt : k < n
    · have t0 : decide ((k : Int) < (n : Int)) = true := decide_eq_true (by omega)
      have c := HC.out k hlt
      have HO : Hid (orL vs = orL (vs.drop k)) := Lib.hid (orL_zero vs k HZ.out (by rw [HN.out]; exact hk))
      have HD : Hid (vs.drop k = vs[k]! :: vs.drop (k + 1)) := Lib.hid (by rw [List.drop_eq_getElem_cons (by rw [HN.out]; exact hlt), getElem!_pos vs k (by rw [HN.out]; exact hlt)])
      have HS : Hid (vs[k]! = 0 → ∀ j, j < k + 1 → vs[j]! = 0) := Lib.hid fun h0 j hj => by
        by_cases e : j < k
        · exact HZ.out j e
        · rw [show j = k by omega]; exact h0
      generalize vs[k]! = x at *
      by_cases h0 : x = 0
      · subst h0
        go_wp2_with fail
        go_round
        case rel => exact ⟨k + 1, by omega, by go_num, Lib.hid (HS.out rfl)⟩
        case measure => simp [intOf]; omega
      · have t1 : (x != 0) = true := by simpa using h0
        have HR : Hid (orL vs = x) := Lib.hid (by rw [HO.out, HD.out, orL, if_pos h0])
        clear h0
        go_wp2_with fail
        go_ret
        exact ⟨retI HR.out.symm, rfl⟩
    · obtain rfl : k = n := by omega
      have t0 : decide ((k : Int) < (k : Int)) = false := decide_eq_false (by omega)
      have HR : Hid (orL vs = 0) := Lib.hid (by rw [orL_zero vs k HZ.out (by rw [HN.out]; exact Nat.le_refl _), List.drop_eq_nil_of_le (by rw [HN.out]; exact Nat.le_refl _)]; rfl)
      go_wp2_with fail
      go_ret
      exact ⟨retI HR.out.symm, rfl⟩
theorem orL_two (a b c d : Int) : orL [cmpI a c, cmpI b d] = cmpL [a, b] [c, d] := by
  simp only [orL, cmpL]
theorem orL_cons (x : Int) (l : List Int) : orL (x :: l) = if x ≠ 0 then x else orL l := rfl
theorem cmpL_app : ∀ (l m l' m' : List Int), l.length = m.length → cmpL (l ++ l') (m ++ m') = if cmpL l m ≠ 0 then cmpL l m else cmpL l' m'
  | [], [], l', m', _ => by simp [cmpL]
  | [], _ :: _, _, _, h => by simp at h
  | _ :: _, [], _, _, h => by simp at h
  | a :: l, b :: m, l', m', h => by
    have ih := cmpL_app l m l' m' (by simpa using h)
    rw [List.cons_append, List.cons_append, cmpL, cmpL, ih]
    by_cases k : cmpI a b = 0
    · simp [k]
    · simp [k]
theorem cmpL_one (a b : Int) : cmpL [a] [b] = cmpI a b := by
  simp only [cmpL]
  split
  · rfl
  · rename_i h; simp at h; exact h.symm
/-- The numbers of an event, in the order in which they are compared. -/
def nsE (e : Ev) : List Int := [e.kt, e.ks, e.em, e.ti, e.ki, e.tt, e.ts]
def cmpE (a b : Ev) : Int := cmpL (nsE a) (nsE b)
theorem totE : Tot cmpE := tot_of nsE (fun a b h => by
  obtain ⟨a0, a1, a2, a3, a4, a5, a6⟩ := a
  obtain ⟨b0, b1, b2, b3, b4, b5, b6⟩ := b
  simp only [nsE, List.cons.injEq, and_true] at h
  obtain ⟨rfl, rfl, rfl, rfl, rfl, rfl, rfl⟩ := h
  rfl) (fun a b => rfl)
theorem cmpE_or (a b : Ev) : cmpE a b = orL [cmpL [a.kt, a.ks] [b.kt, b.ks], cmpI a.em b.em, cmpI a.ti b.ti, cmpI a.ki b.ki, cmpL [a.tt, a.ts] [b.tt, b.ts]] := by
  unfold cmpE nsE
  have h1 := cmpL_app [a.kt, a.ks] [b.kt, b.ks] [a.em, a.ti, a.ki, a.tt, a.ts] [b.em, b.ti, b.ki, b.tt, b.ts] rfl
  have h2 := cmpL_app [a.em] [b.em] [a.ti, a.ki, a.tt, a.ts] [b.ti, b.ki, b.tt, b.ts] rfl
  have h3 := cmpL_app [a.ti] [b.ti] [a.ki, a.tt, a.ts] [b.ki, b.tt, b.ts] rfl
  have h4 := cmpL_app [a.ki] [b.ki] [a.tt, a.ts] [b.tt, b.ts] rfl
  rw [cmpL_one] at h2 h3 h4
  simp only [List.cons_append, List.nil_append] at h1 h2 h3 h4
  rw [h1, h2, h3, h4]
  simp only [orL_cons]
  generalize cmpL [a.tt, a.ts] [b.tt, b.ts] = z
  by_cases hz : z = 0
  · simp [hz, orL]
  · simp [hz]
def KyW (a b c d : Int) (w : World) (r : Ending) (w' : World) : Prop := r = .returned (.int .i64 (cmpL [a, b] [c, d])) ∧ Gr w w'

theorem below_two (w : World) (o o' : Obj) : Gr w ((w.alloc o).alloc o') := ((Gr.refl w).alloc o).alloc o'
set_option maxRecDepth 100000 in
set_option maxHeartbeats 2000000 in
theorem keys_any (a b c d : Int) (w : World) : Calls Try.prog 57 #[.agg #[.int .i64 a, .int .i64 b], .agg #[.int .i64 c, .int .i64 d]] w (KyW a b c d w) := by
  unfold KyW
  rw [← orL_two]
  have C1 := Lib.hid (fun W => comp_any a c W)
  have C2 := Lib.hid (fun W => comp_any b d W)
  have CO := Lib.hid (fun g W h => or_any g 2 2 [cmpI a c, cmpI b d] rfl (by decide) W h)
  generalize cmpI a c = n1 at *
  generalize cmpI b d = n2 at *
  go_enter Try.func57, Try.ntmps57
  go_wp2_with fail
  have B0 := Lib.hid (below_two w (.cells #[.int .i64 a, .int .i64 b] 24) (.cells #[.int .i64 c, .int .i64 d] 24))
  have c0 : ((w.alloc (.cells #[.int .i64 a, .int .i64 b] 24)).alloc (.cells #[.int .i64 c, .int .i64 d] 24)).cell? ⟨w.heap.size, 0, none⟩ = some (.int .i64 a) := by go_simp
  have c1 : ((w.alloc (.cells #[.int .i64 a, .int .i64 b] 24)).alloc (.cells #[.int .i64 c, .int .i64 d] 24)).cell? ⟨w.heap.size, 1, none⟩ = some (.int .i64 b) := by go_simp
  have c2 : ((w.alloc (.cells #[.int .i64 a, .int .i64 b] 24)).alloc (.cells #[.int .i64 c, .int .i64 d] 24)).cell? ⟨w.heap.size + 1, 0, none⟩ = some (.int .i64 c) := by go_simp
  have c3 : ((w.alloc (.cells #[.int .i64 a, .int .i64 b] 24)).alloc (.cells #[.int .i64 c, .int .i64 d] 24)).cell? ⟨w.heap.size + 1, 1, none⟩ = some (.int .i64 d) := by go_simp
  generalize (w.alloc (.cells #[.int .i64 a, .int .i64 b] 24)).alloc (.cells #[.int .i64 c, .int .i64 d] 24) = wb at *
  have mixed : Try.prog.follows Departure.mixedOrders = true := by kernel_rfl
  have K0 := fun P : GrBy wb => (P.h.below.cell (World.block_lt_of_cell? wb _ c0)).trans c0
  have K1 := fun P : GrBy wb => (P.h.below.cell (World.block_lt_of_cell? wb _ c1)).trans c1
  have K2 := fun P : GrBy wb => (P.h.below.cell (World.block_lt_of_cell? wb _ c2)).trans c2
  have K3 := fun P : GrBy wb => (P.h.below.cell (World.block_lt_of_cell? wb _ c3)).trans c3
  have D1 : Hid (∀ P : GrBy wb, Calls Try.prog 58 #[.int .i64 a, .int .i64 c] P.W fun r W' => r = .returned (.int .i64 n1) ∧ ∃ p2 : GrBy wb, W' = p2.W) := Lib.hid fun P => (C1.out P.W).mono fun _ _ h => ⟨h.1, P, h.2⟩
  have D2 : Hid (∀ P : GrBy wb, Calls Try.prog 58 #[.int .i64 b, .int .i64 d] P.W fun r W' => r = .returned (.int .i64 n2) ∧ ∃ p2 : GrBy wb, W' = p2.W) := Lib.hid fun P => (C2.out P.W).mono fun _ _ h => ⟨h.1, P, h.2⟩
  clear C1 C2 c0 c1 c2 c3
  refine wp_region_gr_tail (w0 := wb) 10 99 mixed (by kernel_rfl) (pure_none rfl) (fun o ho => absurd ho (by simp)) (Gr.refl _) ?_
  simp only [List.take_succ_cons, List.take_zero, List.drop_succ_cons, List.drop_zero]
  repeat (go_big_quiet_step ((first | (go_at_call 58; (with_reducible exact D1.out _)) | (go_at_call 58; (with_reducible exact D2.out _)))))
  refine wpQuiet_nil ?_
  intro P
  obtain ⟨wd, hd⟩ := P
  change wpList _ _ _ _ _ wd
  have HD := Lib.hid (B0.out.trans hd)
  clear K0 K1 K2 K3 D1 D2 hd B0
  go_wp2_with fail
  refine (CO.out _ _ ?cc).mono ?_
  case cc =>
    intro i hi
    rcases i with _ | _ | i
    · go_simp
    · go_simp
    · omega
  rintro r w2 ⟨rfl, rfl⟩
  go_wp2_with fail
  go_ret
  exact ⟨rfl, HD.out.alloc _⟩

def CmpW (x : Int) (w : World) (r : Ending) (w' : World) : Prop := r = .returned (.int .i64 x) ∧ Gr w w'
set_option maxRecDepth 100000 in
set_option maxHeartbeats 4000000 in
theorem cmpe_any (x y : Ev) (w : World) : Calls Try.prog 34 #[vE x, vE y] w (CmpW (cmpE x y) w) := by
  rw [cmpE_or]
  obtain ⟨a0, a1, a2, a3, a4, a5, a6⟩ := x
  obtain ⟨b0, b1, b2, b3, b4, b5, b6⟩ := y
  unfold CmpW vE
  simp only
  have C0 := Lib.hid (fun W => keys_any a0 a1 b0 b1 W)
  have C2 := Lib.hid (fun W => comp_any a2 b2 W)
  have C3 := Lib.hid (fun W => comp_any a3 b3 W)
  have C4 := Lib.hid (fun W => comp_any a4 b4 W)
  have C5 := Lib.hid (fun W => keys_any a5 a6 b5 b6 W)
  unfold KyW at C0 C5
  have CO := Lib.hid (fun g W h => or_any g 5 5 [cmpL [a0, a1] [b0, b1], cmpI a2 b2, cmpI a3 b3, cmpI a4 b4, cmpL [a5, a6] [b5, b6]] rfl (by decide) W h)
  generalize cmpL [a0, a1] [b0, b1] = n1 at *
  generalize cmpI a2 b2 = n2 at *
  generalize cmpI a3 b3 = n3 at *
  generalize cmpI a4 b4 = n4 at *
  generalize cmpL [a5, a6] [b5, b6] = n5 at *
  go_enter Try.func34, Try.ntmps34
  go_wp2_with fail
  have B0 := Lib.hid (below_two w (.cells #[.int .i64 a0, .int .i64 a1, .int .i64 a2, .int .i64 a3, .int .i64 a4, .int .i64 a5, .int .i64 a6] 26) (.cells #[.int .i64 b0, .int .i64 b1, .int .i64 b2, .int .i64 b3, .int .i64 b4, .int .i64 b5, .int .i64 b6] 26))
  have c0 : ((w.alloc (.cells #[.int .i64 a0, .int .i64 a1, .int .i64 a2, .int .i64 a3, .int .i64 a4, .int .i64 a5, .int .i64 a6] 26)).alloc (.cells #[.int .i64 b0, .int .i64 b1, .int .i64 b2, .int .i64 b3, .int .i64 b4, .int .i64 b5, .int .i64 b6] 26)).cell? ⟨w.heap.size, 0, none⟩ = some (.int .i64 a0) := by go_simp
  have c1 : ((w.alloc (.cells #[.int .i64 a0, .int .i64 a1, .int .i64 a2, .int .i64 a3, .int .i64 a4, .int .i64 a5, .int .i64 a6] 26)).alloc (.cells #[.int .i64 b0, .int .i64 b1, .int .i64 b2, .int .i64 b3, .int .i64 b4, .int .i64 b5, .int .i64 b6] 26)).cell? ⟨w.heap.size, 1, none⟩ = some (.int .i64 a1) := by go_simp
  have c2 : ((w.alloc (.cells #[.int .i64 a0, .int .i64 a1, .int .i64 a2, .int .i64 a3, .int .i64 a4, .int .i64 a5, .int .i64 a6] 26)).alloc (.cells #[.int .i64 b0, .int .i64 b1, .int .i64 b2, .int .i64 b3, .int .i64 b4, .int .i64 b5, .int .i64 b6] 26)).cell? ⟨w.heap.size, 2, none⟩ = some (.int .i64 a2) := by go_simp
  have c3 : ((w.alloc (.cells #[.int .i64 a0, .int .i64 a1, .int .i64 a2, .int .i64 a3, .int .i64 a4, .int .i64 a5, .int .i64 a6] 26)).alloc (.cells #[.int .i64 b0, .int .i64 b1, .int .i64 b2, .int .i64 b3, .int .i64 b4, .int .i64 b5, .int .i64 b6] 26)).cell? ⟨w.heap.size, 3, none⟩ = some (.int .i64 a3) := by go_simp
  have c4 : ((w.alloc (.cells #[.int .i64 a0, .int .i64 a1, .int .i64 a2, .int .i64 a3, .int .i64 a4, .int .i64 a5, .int .i64 a6] 26)).alloc (.cells #[.int .i64 b0, .int .i64 b1, .int .i64 b2, .int .i64 b3, .int .i64 b4, .int .i64 b5, .int .i64 b6] 26)).cell? ⟨w.heap.size, 4, none⟩ = some (.int .i64 a4) := by go_simp
  have c5 : ((w.alloc (.cells #[.int .i64 a0, .int .i64 a1, .int .i64 a2, .int .i64 a3, .int .i64 a4, .int .i64 a5, .int .i64 a6] 26)).alloc (.cells #[.int .i64 b0, .int .i64 b1, .int .i64 b2, .int .i64 b3, .int .i64 b4, .int .i64 b5, .int .i64 b6] 26)).cell? ⟨w.heap.size, 5, none⟩ = some (.int .i64 a5) := by go_simp
  have c6 : ((w.alloc (.cells #[.int .i64 a0, .int .i64 a1, .int .i64 a2, .int .i64 a3, .int .i64 a4, .int .i64 a5, .int .i64 a6] 26)).alloc (.cells #[.int .i64 b0, .int .i64 b1, .int .i64 b2, .int .i64 b3, .int .i64 b4, .int .i64 b5, .int .i64 b6] 26)).cell? ⟨w.heap.size, 6, none⟩ = some (.int .i64 a6) := by go_simp
  have d0 : ((w.alloc (.cells #[.int .i64 a0, .int .i64 a1, .int .i64 a2, .int .i64 a3, .int .i64 a4, .int .i64 a5, .int .i64 a6] 26)).alloc (.cells #[.int .i64 b0, .int .i64 b1, .int .i64 b2, .int .i64 b3, .int .i64 b4, .int .i64 b5, .int .i64 b6] 26)).cell? ⟨w.heap.size + 1, 0, none⟩ = some (.int .i64 b0) := by go_simp
  have d1 : ((w.alloc (.cells #[.int .i64 a0, .int .i64 a1, .int .i64 a2, .int .i64 a3, .int .i64 a4, .int .i64 a5, .int .i64 a6] 26)).alloc (.cells #[.int .i64 b0, .int .i64 b1, .int .i64 b2, .int .i64 b3, .int .i64 b4, .int .i64 b5, .int .i64 b6] 26)).cell? ⟨w.heap.size + 1, 1, none⟩ = some (.int .i64 b1) := by go_simp
  have d2 : ((w.alloc (.cells #[.int .i64 a0, .int .i64 a1, .int .i64 a2, .int .i64 a3, .int .i64 a4, .int .i64 a5, .int .i64 a6] 26)).alloc (.cells #[.int .i64 b0, .int .i64 b1, .int .i64 b2, .int .i64 b3, .int .i64 b4, .int .i64 b5, .int .i64 b6] 26)).cell? ⟨w.heap.size + 1, 2, none⟩ = some (.int .i64 b2) := by go_simp
  have d3 : ((w.alloc (.cells #[.int .i64 a0, .int .i64 a1, .int .i64 a2, .int .i64 a3, .int .i64 a4, .int .i64 a5, .int .i64 a6] 26)).alloc (.cells #[.int .i64 b0, .int .i64 b1, .int .i64 b2, .int .i64 b3, .int .i64 b4, .int .i64 b5, .int .i64 b6] 26)).cell? ⟨w.heap.size + 1, 3, none⟩ = some (.int .i64 b3) := by go_simp
  have d4 : ((w.alloc (.cells #[.int .i64 a0, .int .i64 a1, .int .i64 a2, .int .i64 a3, .int .i64 a4, .int .i64 a5, .int .i64 a6] 26)).alloc (.cells #[.int .i64 b0, .int .i64 b1, .int .i64 b2, .int .i64 b3, .int .i64 b4, .int .i64 b5, .int .i64 b6] 26)).cell? ⟨w.heap.size + 1, 4, none⟩ = some (.int .i64 b4) := by go_simp
  have d5 : ((w.alloc (.cells #[.int .i64 a0, .int .i64 a1, .int .i64 a2, .int .i64 a3, .int .i64 a4, .int .i64 a5, .int .i64 a6] 26)).alloc (.cells #[.int .i64 b0, .int .i64 b1, .int .i64 b2, .int .i64 b3, .int .i64 b4, .int .i64 b5, .int .i64 b6] 26)).cell? ⟨w.heap.size + 1, 5, none⟩ = some (.int .i64 b5) := by go_simp
  have d6 : ((w.alloc (.cells #[.int .i64 a0, .int .i64 a1, .int .i64 a2, .int .i64 a3, .int .i64 a4, .int .i64 a5, .int .i64 a6] 26)).alloc (.cells #[.int .i64 b0, .int .i64 b1, .int .i64 b2, .int .i64 b3, .int .i64 b4, .int .i64 b5, .int .i64 b6] 26)).cell? ⟨w.heap.size + 1, 6, none⟩ = some (.int .i64 b6) := by go_simp
  generalize ((w.alloc (.cells #[.int .i64 a0, .int .i64 a1, .int .i64 a2, .int .i64 a3, .int .i64 a4, .int .i64 a5, .int .i64 a6] 26)).alloc (.cells #[.int .i64 b0, .int .i64 b1, .int .i64 b2, .int .i64 b3, .int .i64 b4, .int .i64 b5, .int .i64 b6] 26)) = wb at *
  have mixed : Try.prog.follows Departure.mixedOrders = true := by kernel_rfl
  have K0 := fun P : GrBy wb => (P.h.below.cell (World.block_lt_of_cell? wb _ c0)).trans c0
  have K1 := fun P : GrBy wb => (P.h.below.cell (World.block_lt_of_cell? wb _ c1)).trans c1
  have K2 := fun P : GrBy wb => (P.h.below.cell (World.block_lt_of_cell? wb _ c2)).trans c2
  have K3 := fun P : GrBy wb => (P.h.below.cell (World.block_lt_of_cell? wb _ c3)).trans c3
  have K4 := fun P : GrBy wb => (P.h.below.cell (World.block_lt_of_cell? wb _ c4)).trans c4
  have K5 := fun P : GrBy wb => (P.h.below.cell (World.block_lt_of_cell? wb _ c5)).trans c5
  have K6 := fun P : GrBy wb => (P.h.below.cell (World.block_lt_of_cell? wb _ c6)).trans c6
  have L0 := fun P : GrBy wb => (P.h.below.cell (World.block_lt_of_cell? wb _ d0)).trans d0
  have L1 := fun P : GrBy wb => (P.h.below.cell (World.block_lt_of_cell? wb _ d1)).trans d1
  have L2 := fun P : GrBy wb => (P.h.below.cell (World.block_lt_of_cell? wb _ d2)).trans d2
  have L3 := fun P : GrBy wb => (P.h.below.cell (World.block_lt_of_cell? wb _ d3)).trans d3
  have L4 := fun P : GrBy wb => (P.h.below.cell (World.block_lt_of_cell? wb _ d4)).trans d4
  have L5 := fun P : GrBy wb => (P.h.below.cell (World.block_lt_of_cell? wb _ d5)).trans d5
  have L6 := fun P : GrBy wb => (P.h.below.cell (World.block_lt_of_cell? wb _ d6)).trans d6
  have D1 : Hid (∀ P : GrBy wb, Calls Try.prog 57 #[.agg #[.int .i64 a0, .int .i64 a1], .agg #[.int .i64 b0, .int .i64 b1]] P.W fun r W' => r = .returned (.int .i64 n1) ∧ ∃ p2 : GrBy wb, W' = p2.W) := Lib.hid fun P => (C0.out P.W).mono fun _ W' h => ⟨h.1, ⟨W', P.h.trans h.2⟩, rfl⟩
  have D5 : Hid (∀ P : GrBy wb, Calls Try.prog 57 #[.agg #[.int .i64 a5, .int .i64 a6], .agg #[.int .i64 b5, .int .i64 b6]] P.W fun r W' => r = .returned (.int .i64 n5) ∧ ∃ p2 : GrBy wb, W' = p2.W) := Lib.hid fun P => (C5.out P.W).mono fun _ W' h => ⟨h.1, ⟨W', P.h.trans h.2⟩, rfl⟩
  have D2 : Hid (∀ P : GrBy wb, Calls Try.prog 58 #[.int .i64 a2, .int .i64 b2] P.W fun r W' => r = .returned (.int .i64 n2) ∧ ∃ p2 : GrBy wb, W' = p2.W) := Lib.hid fun P => (C2.out P.W).mono fun _ _ h => ⟨h.1, P, h.2⟩
  have D3 : Hid (∀ P : GrBy wb, Calls Try.prog 58 #[.int .i64 a3, .int .i64 b3] P.W fun r W' => r = .returned (.int .i64 n3) ∧ ∃ p2 : GrBy wb, W' = p2.W) := Lib.hid fun P => (C3.out P.W).mono fun _ _ h => ⟨h.1, P, h.2⟩
  have D4 : Hid (∀ P : GrBy wb, Calls Try.prog 58 #[.int .i64 a4, .int .i64 b4] P.W fun r W' => r = .returned (.int .i64 n4) ∧ ∃ p2 : GrBy wb, W' = p2.W) := Lib.hid fun P => (C4.out P.W).mono fun _ _ h => ⟨h.1, P, h.2⟩
  clear C0 C2 C3 C4 C5 c0 c1 c2 c3 c4 c5 c6 d0 d1 d2 d3 d4 d5 d6
  refine wp_region_gr_tail (w0 := wb) 25 99 mixed (by kernel_rfl) (pure_none rfl) (fun o ho => absurd ho (by simp)) (Gr.refl _) ?_
  simp only [List.take_succ_cons, List.take_zero, List.drop_succ_cons, List.drop_zero]
  repeat (go_big_quiet_step ((first | (go_at_call 57; (with_reducible exact D1.out _)) | (go_at_call 57; (with_reducible exact D5.out _)) | (go_at_call 58; first | (with_reducible exact D2.out _) | (with_reducible exact D3.out _) | (with_reducible exact D4.out _)))))
  refine wpQuiet_nil ?_
  intro P
  obtain ⟨wd, hd⟩ := P
  change wpList _ _ _ _ _ wd
  have HD := Lib.hid (B0.out.trans hd)
  clear K0 K1 K2 K3 K4 K5 K6 L0 L1 L2 L3 L4 L5 L6 D1 D2 D3 D4 D5 hd B0
  go_wp2_with fail
  refine (CO.out _ _ ?cc).mono ?_
  case cc =>
    intro i hi
    rcases i with _ | _ | _ | _ | _ | i
    all_goals first | (go_simp; done) | omega
  rintro r w2 ⟨rfl, rfl⟩
  go_wp2_with fail
  go_ret
  exact ⟨rfl, HD.out.alloc _⟩
end Go.Proofs.Ytebdldinlodgpaa.Ib
