/-
  Layer 8 (inbox): the function values of Effective, and slices.SortFunc at stamps. Conditions: what the captured variables hold; the keys differ.
-/
import Derived.Test.YtebdldinlodgpaaPrIr
import Derived.Test.YtebdldinlodgpaaPrIp
import Derived.Test.YtebdldinlodgpaaShelf
namespace Go.Proofs.Ytebdldinlodgpaa.Ib
open Go Go.RowKit Go.Lib Go.Sort Go.Shelf Go.Maps Go.Proofs Go.Proofs.Ytebdldinlodgpaa Go.Proofs.Ytebdldinlodgpaa.Tp Go.Proofs.Ytebdldinlodgpaa.Gm Go.Proofs.Ytebdldinlodgpaa.Rc Go.Proofs.Ytebdldinlodgpaa.SS
set_option linter.unusedVariables false

set_option maxRecDepth 100000 in
set_option maxHeartbeats 1000000 in
theorem cl_emp (eb : Nat) (emp : Int) (c : Ev) (W : World) (h : W.cell? ⟨eb, 0, none⟩ = some (.int .i64 emp)) :
    Calls Try.prog 66 (#[SE.vC c] ++ #[.pointer (some ⟨eb, 0, none⟩)]) W fun e w' => e = .returned (.bool (decide (c.em ≠ emp))) ∧ Gr W w' := by
  obtain ⟨a0, a1, a2, a3, a4, a5, a6⟩ := c
  unfold SE.vC
  simp only
  have hb := World.block_lt_of_cell? W _ h
  have G := Lib.hid ((Gr.refl W).alloc (.cells #[.int .i64 a0, .int .i64 a1, .int .i64 a2, .int .i64 a3, .int .i64 a4, .int .i64 a5, .int .i64 a6] 26))
  have h2 : (W.alloc (.cells #[.int .i64 a0, .int .i64 a1, .int .i64 a2, .int .i64 a3, .int .i64 a4, .int .i64 a5, .int .i64 a6] 26)).cell? ⟨eb, 0, none⟩ = some (.int .i64 emp) := Lib.cell?_alloc_some _ h
  by_cases he : a2 = emp
  · subst he
    have e1 : decide (a2 ≠ a2) = false := decide_eq_false (fun h => h rfl)
    rw [e1]
    clear h
    go_enter Try.func66, Try.ntmps66
    go_wp2_with fail
    go_ret
    exact ⟨by simp, G.out⟩
  · have e1 : decide (a2 ≠ emp) = true := decide_eq_true he
    have e2 : decide (a2 = emp) = false := decide_eq_false he
    rw [e1]
    clear h
    go_enter Try.func66, Try.ntmps66
    go_wp2_with fail
    go_ret
    exact ⟨by simp [he], G.out⟩
set_option maxRecDepth 100000 in
set_option maxHeartbeats 1000000 in
theorem cl_pl (pb b m : Nat) (g : Int → Int → Option Int) (s : St) (W : World) (h : W.cell? ⟨pb, 0, none⟩ = some (.map (some b))) (hm : MapK W b m g) (h1 : W64 s.kt) (h2 : W64 s.ks) :
    Calls Try.prog 69 (#[vC s] ++ #[.pointer (some ⟨pb, 0, none⟩)]) W fun e w' => e = .returned (.bool (!(g s.kt s.ks).isSome)) ∧ Gr W w' := by
  obtain ⟨a0, a1, a2, a3⟩ := s
  unfold vC
  simp only at *
  have H1 := Lib.hid h1
  have H2 := Lib.hid h2
  have G := Lib.hid ((Gr.refl W).alloc (.cells #[.int .i64 a0, .int .i64 a1, .int .i64 a2, .int .i64 a3] 70))
  have h4 : (W.alloc (.cells #[.int .i64 a0, .int .i64 a1, .int .i64 a2, .int .i64 a3] 70)).cell? ⟨pb, 0, none⟩ = some (.map (some b)) := Lib.cell?_alloc_some _ h
  have HM : Hid (MapK (W.alloc (.cells #[.int .i64 a0, .int .i64 a1, .int .i64 a2, .int .i64 a3] 70)) b m g) := Lib.hid (hm.block (Below.heap_alloc _ _ _ hm.lt))
  clear h hm h1 h2
  go_enter Try.func69, Try.ntmps69
  go_wp2_with (at_lookup; refine wpList_lookK rfl _ _ rfl rfl HM.out rfl H1.out H2.out ?_)
  intro c _ _
  go_wp2_with fail
  go_ret
  refine ⟨?_, G.out⟩
  go_simp
theorem cmp3_or (a b : St) : cmp3 a b = orL [cmpI a.ti b.ti, cmpL [a.kt, a.ks] [b.kt, b.ks]] := by
  unfold cmp3
  rw [cmpL, orL_cons]
  by_cases h : cmpI a.ti b.ti = 0
  · rw [if_neg (by simpa using h), if_neg (by simpa using h)]
    simp only [orL, cmpL]
    by_cases h2 : cmpI a.kt b.kt = 0
    · simp [h2]
      intro a _
      exact a
    · simp [h2]
  · rw [if_pos h, if_pos h]
set_option maxRecDepth 100000 in
set_option maxHeartbeats 4000000 in
theorem cl_cmp (x y : St) (w : World) : Calls Try.prog 71 #[vC x, vC y] w (CmpW (cmp3 x y) w) := by
  rw [cmp3_or]
  obtain ⟨a0, a1, a2, a3⟩ := x
  obtain ⟨b0, b1, b2, b3⟩ := y
  unfold CmpW vC
  simp only
  have C1 := Lib.hid (fun W => comp_any a0 b0 W)
  have C2 := Lib.hid (fun W => keys_any a2 a3 b2 b3 W)
  unfold KyW at C2
  have CO := Lib.hid (fun g W h => or_any g 2 2 [cmpI a0 b0, cmpL [a2, a3] [b2, b3]] rfl (by decide) W h)
  generalize cmpI a0 b0 = n1 at *
  generalize cmpL [a2, a3] [b2, b3] = n2 at *
  go_enter Try.func71, Try.ntmps71
  go_wp2_with fail
  have B0 := Lib.hid (below_two w (.cells #[.int .i64 a0, .int .i64 a1, .int .i64 a2, .int .i64 a3] 70) (.cells #[.int .i64 b0, .int .i64 b1, .int .i64 b2, .int .i64 b3] 70))
  have c0 : ((w.alloc (.cells #[.int .i64 a0, .int .i64 a1, .int .i64 a2, .int .i64 a3] 70)).alloc (.cells #[.int .i64 b0, .int .i64 b1, .int .i64 b2, .int .i64 b3] 70)).cell? ⟨w.heap.size, 0, none⟩ = some (.int .i64 a0) := by go_simp
  have c2 : ((w.alloc (.cells #[.int .i64 a0, .int .i64 a1, .int .i64 a2, .int .i64 a3] 70)).alloc (.cells #[.int .i64 b0, .int .i64 b1, .int .i64 b2, .int .i64 b3] 70)).cell? ⟨w.heap.size, 2, none⟩ = some (.int .i64 a2) := by go_simp
  have c3 : ((w.alloc (.cells #[.int .i64 a0, .int .i64 a1, .int .i64 a2, .int .i64 a3] 70)).alloc (.cells #[.int .i64 b0, .int .i64 b1, .int .i64 b2, .int .i64 b3] 70)).cell? ⟨w.heap.size, 3, none⟩ = some (.int .i64 a3) := by go_simp
  have d0 : ((w.alloc (.cells #[.int .i64 a0, .int .i64 a1, .int .i64 a2, .int .i64 a3] 70)).alloc (.cells #[.int .i64 b0, .int .i64 b1, .int .i64 b2, .int .i64 b3] 70)).cell? ⟨w.heap.size + 1, 0, none⟩ = some (.int .i64 b0) := by go_simp
  have d2 : ((w.alloc (.cells #[.int .i64 a0, .int .i64 a1, .int .i64 a2, .int .i64 a3] 70)).alloc (.cells #[.int .i64 b0, .int .i64 b1, .int .i64 b2, .int .i64 b3] 70)).cell? ⟨w.heap.size + 1, 2, none⟩ = some (.int .i64 b2) := by go_simp
  have d3 : ((w.alloc (.cells #[.int .i64 a0, .int .i64 a1, .int .i64 a2, .int .i64 a3] 70)).alloc (.cells #[.int .i64 b0, .int .i64 b1, .int .i64 b2, .int .i64 b3] 70)).cell? ⟨w.heap.size + 1, 3, none⟩ = some (.int .i64 b3) := by go_simp
  generalize (w.alloc (.cells #[.int .i64 a0, .int .i64 a1, .int .i64 a2, .int .i64 a3] 70)).alloc (.cells #[.int .i64 b0, .int .i64 b1, .int .i64 b2, .int .i64 b3] 70) = wb at *
  have mixed : Try.prog.follows Departure.mixedOrders = true := by kernel_rfl
  have K0 := fun P : GrBy wb => (P.h.below.cell (World.block_lt_of_cell? wb _ c0)).trans c0
  have K2 := fun P : GrBy wb => (P.h.below.cell (World.block_lt_of_cell? wb _ c2)).trans c2
  have K3 := fun P : GrBy wb => (P.h.below.cell (World.block_lt_of_cell? wb _ c3)).trans c3
  have L0 := fun P : GrBy wb => (P.h.below.cell (World.block_lt_of_cell? wb _ d0)).trans d0
  have L2 := fun P : GrBy wb => (P.h.below.cell (World.block_lt_of_cell? wb _ d2)).trans d2
  have L3 := fun P : GrBy wb => (P.h.below.cell (World.block_lt_of_cell? wb _ d3)).trans d3
  have D1 : Hid (∀ P : GrBy wb, Calls Try.prog 58 #[.int .i64 a0, .int .i64 b0] P.W fun r W' => r = .returned (.int .i64 n1) ∧ ∃ p2 : GrBy wb, W' = p2.W) := Lib.hid fun P => (C1.out P.W).mono fun _ _ h => ⟨h.1, P, h.2⟩
  have D2 : Hid (∀ P : GrBy wb, Calls Try.prog 57 #[.agg #[.int .i64 a2, .int .i64 a3], .agg #[.int .i64 b2, .int .i64 b3]] P.W fun r W' => r = .returned (.int .i64 n2) ∧ ∃ p2 : GrBy wb, W' = p2.W) := Lib.hid fun P => (C2.out P.W).mono fun _ W' h => ⟨h.1, ⟨W', P.h.trans h.2⟩, rfl⟩
  clear C1 C2 c0 c2 c3 d0 d2 d3
  refine wp_region_gr_tail (w0 := wb) 10 99 mixed (by kernel_rfl) (pure_none rfl) (fun o ho => absurd ho (by simp)) (Gr.refl _) ?_
  simp only [List.take_succ_cons, List.take_zero, List.drop_succ_cons, List.drop_zero]
  repeat (go_big_quiet_step ((first | (go_at_call 57; (with_reducible exact D2.out _)) | (go_at_call 58; (with_reducible exact D1.out _)))))
  refine wpQuiet_nil ?_
  intro P
  obtain ⟨wd, hd⟩ := P
  change wpList _ _ _ _ _ wd
  have HD := Lib.hid (B0.out.trans hd)
  clear K0 K2 K3 L0 L2 L3 D1 D2 hd B0
  go_wp2_with fail
  refine (CO.out _ _ ?cc).mono ?_
  case cc =>
    intro i hi
    rcases i with _ | _ | i
    · go_simp
    · go_simp
    · omega
  rintro r w2 ⟨rfl, rfl⟩
  go_wp2_with fail
  go_ret
  exact ⟨rfl, HD.out.alloc _⟩
/-- Stamps of different keys. -/
def Apart (l : List St) : Prop := l.Pairwise fun a b => ¬ (a.kt = b.kt ∧ a.ks = b.ks)
theorem sort_st (g cap : Nat) (d : Array St) (w : World) (hr : RowC w g d) (hg : g < w.heap.size) (hsz : d.size ≤ 1000000) (ha : Apart d.toList) :
    Calls Try.prog 70 #[.slice (some ⟨g, 0, none⟩) d.size cap, .func (.func 71) #[] #[]] w (SortR g (setL cmpS d.toList) w) := by
  have eg : ∀ args w, (callFunc 71 args).run Try.prog w = .ok (.enter 71 args) w := enters_of Try.func71 (by kernel_rfl) rfl
  have hcon := AnyQ.slices_SortFunc Try.sortS 4 Try.isAgg70 Try.sizeOf70 encC (fun _ => rfl) encC_one cmp3 swo3 71 #[] g 0 cap d w eg (fun m os dk _ x y => cl_cmp x y _) hr.holds hg (by omega)
  refine hcon.mono ?_
  rintro e w' ⟨rfl, d', n, os, hp, hs, rfl⟩
  obtain ⟨hsz', _, hperm⟩ := hp
  have e1 : d'.extract 0 d.size = d' := by rw [← hsz']; exact Array.extract_size
  rw [e1, Array.extract_size] at hperm
  have ha' : Apart d'.toList := (hperm.symm.pairwise_iff (fun {a b} h e => h ⟨e.1.symm, e.2.symm⟩)).1 ha
  have hd : d'.toList = setL cmpS d.toList := by
    refine setL_unique totS _ _ ?_ fun x => hperm.mem_iff
    rw [List.pairwise_iff_getElem]
    intro i j hi hj hij
    have hi' : i < d'.size := by simpa using hi
    have hj' : j < d'.size := by simpa using hj
    have h1 := hs i j (Nat.zero_le _) hij (by omega)
    rw [getElem!_pos d' j hj', getElem!_pos d' i hi'] at h1
    have h2 := of_decide_eq_false h1
    have h3 := List.pairwise_iff_getElem.1 ha' i j hi hj hij
    simp only [Array.getElem_toList] at h3 ⊢
    rcases totS.tri d'[i] d'[j] with k | k | k
    · exact k
    · rw [k] at h3; exact absurd ⟨rfl, rfl⟩ h3
    · exact absurd (cmpS_3 k (fun e => h3 ⟨e.1.symm, e.2.symm⟩)) h2
  rw [← hd]
  exact ⟨rfl, RowC.of_holds (holdsK_sortWorldK_c encC 4 w g 0 d _ n os hr.holds hg hsz'), only_sortWorldK w g n _ os⟩
theorem sort_st_none (p : Option Addr) (cap : Nat) (fv : Value) (w : World) : Calls Try.prog 70 #[.slice p 0 cap, fv] w fun e w' => e = .returned (.tuple #[]) ∧ w' = w :=
  AnyF.slices_SortFunc_none Try.sortS p cap fv w
end Go.Proofs.Ytebdldinlodgpaa.Ib
