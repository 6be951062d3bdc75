/-
  Layer 8 (inbox): the contract of record. Condition: the events are valid, their keys ascend.
-/
import Derived.Test.YtebdldinlodgpaaPrIr
import Derived.Test.YtebdldinlodgpaaPrIq
import Derived.Deep.DeepCutAuto
namespace Go.Proofs.Ytebdldinlodgpaa.Ib
open Go Go.RowKit Go.Lib Go.Sort Go.Shelf Go.Maps Go.Proofs Go.Proofs.Ytebdldinlodgpaa Go.Proofs.Ytebdldinlodgpaa.Tp Go.Proofs.Ytebdldinlodgpaa.Gm Go.Proofs.Ytebdldinlodgpaa.Rc Go.Proofs.Ytebdldinlodgpaa.SS
set_option linter.unusedVariables false

theorem infoSt : ∃ i0 : TypeInfo, Try.prog.info? 70 = some i0 ∧ i0.zero = some (.agg #[.int .i64 0, .int .i64 0, .int .i64 0, .int .i64 0]) ∧ i0.size = 4 ∧ i0.bytes = 32 := by
  have h : (Try.prog.info? 70).map (fun i => (i.zero, i.size, i.bytes)) = some (some (.agg #[.int .i64 0, .int .i64 0, .int .i64 0, .int .i64 0]), 4, 32) := by kernel_rfl
  obtain ⟨i0, hi, hz0, hz1, hz2⟩ := info_parts h
  exact ⟨i0, hi, hz0, hz1, hz2⟩
theorem own_ne {W : World} {base sz : Nat} {t : TypeId} {v : Value} {n b m : Nat} {xs : List Value} {g : Int → Int → Option Int} (h : W.ownsRow base t sz v n xs) (hm : MapK W b m g) : v.ownBlock ≠ some b := by
  obtain ⟨D, ⟨es, clock, hb, _⟩, _⟩ := hm
  intro e
  rcases h.2 with ⟨rfl, _⟩ | ⟨g', cap, cur, rfl, h1, h2, _⟩
  · cases e
  · injection e with e
    subst e
    rw [h2] at hb
    injection hb with hb
    cases hb
theorem w64 {x : Int} (h0 : -1000000000000 ≤ x) (h1 : x ≤ 1000000000000) : W64 x := WalkArith.wf_i64 (by omega)
def At7 (W : World) (s : Nat) (c : Ev) : Prop := W.cell? ⟨s, 0, none⟩ = some (.int .i64 c.kt) ∧ W.cell? ⟨s, 1, none⟩ = some (.int .i64 c.ks) ∧ W.cell? ⟨s, 2, none⟩ = some (.int .i64 c.em) ∧ W.cell? ⟨s, 3, none⟩ = some (.int .i64 c.ti) ∧ W.cell? ⟨s, 4, none⟩ = some (.int .i64 c.ki) ∧ W.cell? ⟨s, 5, none⟩ = some (.int .i64 c.tt) ∧ W.cell? ⟨s, 6, none⟩ = some (.int .i64 c.ts)
theorem At7.block {W W' : World} {s : Nat} {c : Ev} (h : At7 W s c) (hb : W'.heap[s]? = W.heap[s]?) : At7 W' s c := by
  unfold At7 at *
  refine ⟨?_, ?_, ?_, ?_, ?_, ?_, ?_⟩
  · exact (World.cell?_of_block hb).trans h.1
  · exact (World.cell?_of_block (a := ⟨s, 1, none⟩) hb).trans h.2.1
  · exact (World.cell?_of_block (a := ⟨s, 2, none⟩) hb).trans h.2.2.1
  · exact (World.cell?_of_block (a := ⟨s, 3, none⟩) hb).trans h.2.2.2.1
  · exact (World.cell?_of_block (a := ⟨s, 4, none⟩) hb).trans h.2.2.2.2.1
  · exact (World.cell?_of_block (a := ⟨s, 5, none⟩) hb).trans h.2.2.2.2.2.1
  · exact (World.cell?_of_block (a := ⟨s, 6, none⟩) hb).trans h.2.2.2.2.2.2
def RecR (cs : List Ev) (w : World) (e : Ending) (w' : World) : Prop :=
  ∃ v b m g, e = .returned (.tuple #[v, .map (some b)]) ∧ OwnL 70 4 encC w v (recL cs) w' ∧ MapK w' b m g ∧ RecI (recL cs) g ∧ w.heap.size ≤ b ∧ m ≤ 100000
theorem recL_len (cs : List Ev) : (recL cs).length ≤ cs.length := by unfold recL; rw [List.length_map]; exact List.length_filter_le _ _
/-- The stamp of an event goes behind the others. -/
theorem rec_app {w W2 W3 : World} {A : Option Addr} {N cc s0 m : Nat} {R : List St} {z : St} {o : Obj} {v2 : Value} {g : Int → Int → Option Int} (hO : OwnL 70 4 encC w (.slice A N cc) R W2) (hN : R.length = N) (hM : MapK W2 s0 m g)
    (o2 : W3.ownsRow w.heap.size 70 4 v2 (N + 1) (R.flatMap encC ++ fl [z])) (g2 : (W2.alloc o).grownBy W3 (Value.slice A N cc).ownBlock) : OwnL 70 4 encC w v2 (R ++ [z]) W3 ∧ MapK W3 s0 m g := by
  have hO2 := OwnL.alloc hO o
  have hM2 : MapK (W2.alloc o) s0 m g := hM.block (Below.heap_alloc _ _ _ hM.lt)
  refine ⟨OwnL.grown (m := [z]) hO2 (by rw [hN]; exact o2) g2, hM2.kept g2 fun e => ?_⟩
  exact own_ne hO2.row hM2 e.symm
/-- The map gets one more. -/
theorem rec_put {w W W2 : World} {v : Value} {s0 m : Nat} {R : List St} {g : Int → Int → Option Int} (hO : OwnL 70 4 encC w v R W) (hM : MapK W s0 m g) (hs : w.heap.size ≤ s0) (hg : W.grownBy W2 (some s0)) : OwnL 70 4 encC w v R W2 :=
  ⟨hO.row.kept hg (.inr (own_ne hO.row hM)), hO.below.grown hg hO.below.size fun k hk => by injection hk with hk; omega⟩
set_option maxRecDepth 100000 in
set_option maxHeartbeats 8000000 in
theorem record_any (a : Option Addr) (n cap : Nat) (cs : List Ev) (w : World) (hr : Lst w a n cap cs) (hn : n ≤ 100000) (hok : ∀ e ∈ cs, okE e = true) (hk : cs.Pairwise fun a b => cmpK a b < 0) :
    Calls Try.prog 67 #[.slice a n cap] w (RecR cs w) := by
  have HR := Lib.hid hr
  have HL := Lib.hid hr.1.1
  have HK := Lib.hid hok
  have HP := Lib.hid hk
  obtain ⟨i0, hi0, hz0, hz1, hz2⟩ := infoSt
  have HQ := Lib.hid (And.intro hi0 (And.intro hz0 (And.intro hz1 hz2)))
  have hmm := @run_makeMap Try.prog
  clear hr hok hk hi0 hz0 hz1 hz2
  go_enter Try.func67, Try.ntmps67
  go_wp2_with fail
  go_loopw [4, 11] (fun v z wr => ∃ k : Nat, k ≤ n ∧ z = .int .i64 k ∧ Hid (OwnL 70 4 encC w v (recL (cs.take k)) wr) ∧ Hid (∃ m g, m ≤ k ∧ MapK wr w.heap.size m g ∧ RecI (recL (cs.take k)) g)) (fun _ z _ => n - (intOf z).toNat)
  case atStart => exact ⟨0, by omega, rfl, Lib.hid (OwnL.alloc (OwnL.nil _ _ _ _) _), Lib.hid ⟨0, _, Nat.le_refl _, MapK.made w, RecI.start⟩⟩
  case round =>
    clear hmm
    obtain ⟨k, hk, rfl, HO, HM⟩ := hrel
    by_cases hlt : k < n
    · have t0 : decide ((k : Int) < (n : Int)) = true := decide_eq_true (by omega)
      have i1 : (k : Int) < (n : Int) := by omega
      have hkl : k < cs.length := by rw [HL.out]; exact hlt
      obtain ⟨x, hx0, _, hc⟩ := (HR.out.more (OwnL.below HO.out)).1.2 (by omega)
      subst hx0
      obtain ⟨a0, a1, a2, a3, a4, a5, a6⟩ := hc k hlt
      have BD := okE_bd (HK.out cs[k]! (by rw [getElem!_pos cs k hkl]; exact List.getElem_mem hkl))
      have AP := Lib.hid (recL_apart HP.out hkl)
      have ES0 := Lib.hid (recL_succ hkl)
      have NL : Hid ((recL (cs.take k)).length ≤ k) := Lib.hid (by have := recL_len (cs.take k); simp at this; omega)
      clear hc hkl
      generalize cs[k]! = c at *
      obtain ⟨c0, c1, c2, c3, c4, c5, c6⟩ := c
      simp only at a0 a1 a2 a3 a4 a5 a6 BD AP
      obtain ⟨m, g, hmk, hmK, hrI⟩ := HM.out
      have HMK := Lib.hid hmK
      have HRI := Lib.hid hrI
      clear HM hmK hrI
      obtain ⟨R, hR⟩ : ∃ R, R = recL (cs.take k) := ⟨_, rfl⟩
      rw [← hR] at HO HRI AP ES0 NL
      clear hR
      obtain ⟨A, cc, hv, _, _⟩ := OwnL.src HO.out
      subst hv
      generalize hN : R.length = N at *
      have HN := Lib.hid hN
      have hNk : N ≤ k := NL.out
      have HW0 : Hid (W64 c0) := Lib.hid (w64 (by omega) (by omega))
      have HW1 : Hid (W64 c1) := Lib.hid (w64 (by omega) (by omega))
      have HWN : Hid (W64 (N : Int)) := Lib.hid (w64 (by omega) (by omega))
      clear NL hN
      obtain h | h | h | h | h : c4 = 1 ∨ c4 = 2 ∨ c4 = 3 ∨ c4 = 4 ∨ 5 ≤ c4 := by omega
      · subst h
        have ES : Hid (recL (cs.take (k + 1)) = R ++ [(⟨c3, 1, c0, c1⟩ : St)]) := Lib.hid (by rw [ES0.out]; rfl)
        have HO1 : Hid (OwnL 70 4 encC w (.slice A N cc) R (wr.alloc (.cells #[.int .i64 c0, .int .i64 c1, .int .i64 c2, .int .i64 c3, .int .i64 1, .int .i64 c5, .int .i64 c6] 26))) := Lib.hid (OwnL.alloc HO.out _)
        have HM1 : Hid (MapK (wr.alloc (.cells #[.int .i64 c0, .int .i64 c1, .int .i64 c2, .int .i64 c3, .int .i64 1, .int .i64 c5, .int .i64 c6] 26)) w.heap.size m g) := Lib.hid (HMK.out.block (Below.heap_alloc _ _ _ HMK.out.lt))
        have HZ : Hid (At7 (wr.alloc (.cells #[.int .i64 c0, .int .i64 c1, .int .i64 c2, .int .i64 c3, .int .i64 1, .int .i64 c5, .int .i64 c6] 26)) wr.heap.size (⟨c0, c1, c2, c3, 1, c5, c6⟩ : Ev)) := Lib.hid (by unfold At7; refine ⟨?_, ?_, ?_, ?_, ?_, ?_, ?_⟩ <;> go_simp)
        have HNE : Hid (some wr.heap.size ≠ some w.heap.size) := Lib.hid (fun e => by injection e with e; have := HMK.out.lt; omega)
        have HSL := Lib.hid (show wr.heap.size < (wr.alloc (.cells #[.int .i64 c0, .int .i64 c1, .int .i64 c2, .int .i64 c3, .int .i64 1, .int .i64 c5, .int .i64 c6] 26)).heap.size by simp)
        have RI3 : Hid (RecI (R ++ [(⟨c3, 1, c0, c1⟩ : St)]) (putF g c0 c1 (some (N : Int)))) := Lib.hid (by have := HRI.out.step (⟨c3, 1, c0, c1⟩ : St) (fun j hj => AP.out j (by have := HN.out; omega)); rwa [HN.out] at this)
        clear HO HMK ES0 HRI AP
        go_wp2_with (at_mapUpdate; refine wpList_putK rfl _ _ _ rfl rfl HM1.out (by unfold maxLen; omega) (N : Int) rfl rfl HW0.out HW1.out HWN.out ?_)
        intro w2 hm2 hg2
        have HO2 := Lib.hid (rec_put HO1.out HM1.out (Nat.le_refl _) hg2)
        have HM2 := Lib.hid hm2
        have HZ2 := Lib.hid (HZ.out.block (hg2.block _ HSL.out HNE.out))
        have HB2 : Hid (w.heap.size ≤ (w2.alloc (.cells #[.int .i64 c3, .int .i64 1, .int .i64 c0, .int .i64 c1] 70)).heap.size) := Lib.hid ((OwnL.alloc HO2.out _).below.size)
        obtain ⟨b0, b1, b2, b3, b4, b5, b6⟩ := HZ2.out
        simp only at b0 b1 b2 b3 b4 b5 b6
        have HRA : Hid ((w2.alloc (.cells #[.int .i64 c3, .int .i64 1, .int .i64 c0, .int .i64 c1] 70)).ownsRow w.heap.size 70 4 (.slice A N cc) N (R.flatMap encC)) := Lib.hid (by have := (OwnL.alloc HO2.out (.cells #[.int .i64 c3, .int .i64 1, .int .i64 c0, .int .i64 c1] 70)).row; rwa [HN.out] at this)
        have HLC := Lib.hid (cells_row (cs := [(⟨c3, 1, c0, c1⟩ : St)]) (n := 1) rfl (x := ⟨w2.heap.size, 0, none⟩) (w := w2.alloc (.cells #[.int .i64 c3, .int .i64 1, .int .i64 c0, .int .i64 c1] 70)) (fun i hi => by obtain rfl : i = 0 := (by omega); exact (Bz.new w2 (⟨c3, 1, c0, c1⟩ : St) 70).bx.at4))
        have hcap1 : N + 1 ≤ maxLen := by unfold maxLen; omega
        have hcap2 : (N + 1) * 32 ≤ 140737488355328 := by omega
        clear hm2 hg2 HM1 HO1 HZ HNE HSL HZ2
        go_wp2_with (at_builtin; refine wpList_append_opt _ rfl _ _ 64 rfl w.heap.size 70 i0 (.agg #[.int .i64 0, .int .i64 0, .int .i64 0, .int .i64 0]) 4 32 Try.underlying64 HQ.out.1 HQ.out.2.1 HQ.out.2.2.1 HQ.out.2.2.2 rfl (by decide) _ _ _ rfl HRA.out (some ⟨w2.heap.size, 0, none⟩) 1 1 (fl [(⟨c3, 1, c0, c1⟩ : St)]) rfl rfl (fun h => by cases h) (fun ad had => by injection had with had; subst had; exact HLC.out) (fl_one _) hcap1 hcap2 HB2.out ?_)
        intro v2 w3 o2 g3 _
        have HD := Lib.hid (rec_app HO2.out HN.out HM2.out o2 g3)
        clear o2 g3 HO2 HM2 HRA HLC HB2 b0 b1 b2 b3 b4 b5 b6
        go_wp2_with fail
        go_roundw
        case rel => exact ⟨k + 1, by omega, by go_num, Lib.hid (by rw [ES.out]; exact HD.out.1), Lib.hid ⟨m + 1, _, by omega, HD.out.2, by rw [ES.out]; exact RI3.out⟩⟩
        case measure => simp [intOf]; omega
      · subst h
        have ES : Hid (recL (cs.take (k + 1)) = R ++ [(⟨c3, 2, c0, c1⟩ : St)]) := Lib.hid (by rw [ES0.out]; rfl)
        have HO1 : Hid (OwnL 70 4 encC w (.slice A N cc) R (wr.alloc (.cells #[.int .i64 c0, .int .i64 c1, .int .i64 c2, .int .i64 c3, .int .i64 2, .int .i64 c5, .int .i64 c6] 26))) := Lib.hid (OwnL.alloc HO.out _)
        have HM1 : Hid (MapK (wr.alloc (.cells #[.int .i64 c0, .int .i64 c1, .int .i64 c2, .int .i64 c3, .int .i64 2, .int .i64 c5, .int .i64 c6] 26)) w.heap.size m g) := Lib.hid (HMK.out.block (Below.heap_alloc _ _ _ HMK.out.lt))
        have HZ : Hid (At7 (wr.alloc (.cells #[.int .i64 c0, .int .i64 c1, .int .i64 c2, .int .i64 c3, .int .i64 2, .int .i64 c5, .int .i64 c6] 26)) wr.heap.size (⟨c0, c1, c2, c3, 2, c5, c6⟩ : Ev)) := Lib.hid (by unfold At7; refine ⟨?_, ?_, ?_, ?_, ?_, ?_, ?_⟩ <;> go_simp)
        have HNE : Hid (some wr.heap.size ≠ some w.heap.size) := Lib.hid (fun e => by injection e with e; have := HMK.out.lt; omega)
        have HSL := Lib.hid (show wr.heap.size < (wr.alloc (.cells #[.int .i64 c0, .int .i64 c1, .int .i64 c2, .int .i64 c3, .int .i64 2, .int .i64 c5, .int .i64 c6] 26)).heap.size by simp)
        have RI3 : Hid (RecI (R ++ [(⟨c3, 2, c0, c1⟩ : St)]) (putF g c0 c1 (some (N : Int)))) := Lib.hid (by have := HRI.out.step (⟨c3, 2, c0, c1⟩ : St) (fun j hj => AP.out j (by have := HN.out; omega)); rwa [HN.out] at this)
        clear HO HMK ES0 HRI AP
        go_wp2_with (at_mapUpdate; refine wpList_putK rfl _ _ _ rfl rfl HM1.out (by unfold maxLen; omega) (N : Int) rfl rfl HW0.out HW1.out HWN.out ?_)
        intro w2 hm2 hg2
        have HO2 := Lib.hid (rec_put HO1.out HM1.out (Nat.le_refl _) hg2)
        have HM2 := Lib.hid hm2
        have HZ2 := Lib.hid (HZ.out.block (hg2.block _ HSL.out HNE.out))
        have HB2 : Hid (w.heap.size ≤ (w2.alloc (.cells #[.int .i64 c3, .int .i64 2, .int .i64 c0, .int .i64 c1] 70)).heap.size) := Lib.hid ((OwnL.alloc HO2.out _).below.size)
        obtain ⟨b0, b1, b2, b3, b4, b5, b6⟩ := HZ2.out
        simp only at b0 b1 b2 b3 b4 b5 b6
        have HRA : Hid ((w2.alloc (.cells #[.int .i64 c3, .int .i64 2, .int .i64 c0, .int .i64 c1] 70)).ownsRow w.heap.size 70 4 (.slice A N cc) N (R.flatMap encC)) := Lib.hid (by have := (OwnL.alloc HO2.out (.cells #[.int .i64 c3, .int .i64 2, .int .i64 c0, .int .i64 c1] 70)).row; rwa [HN.out] at this)
        have HLC := Lib.hid (cells_row (cs := [(⟨c3, 2, c0, c1⟩ : St)]) (n := 1) rfl (x := ⟨w2.heap.size, 0, none⟩) (w := w2.alloc (.cells #[.int .i64 c3, .int .i64 2, .int .i64 c0, .int .i64 c1] 70)) (fun i hi => by obtain rfl : i = 0 := (by omega); exact (Bz.new w2 (⟨c3, 2, c0, c1⟩ : St) 70).bx.at4))
        have hcap1 : N + 1 ≤ maxLen := by unfold maxLen; omega
        have hcap2 : (N + 1) * 32 ≤ 140737488355328 := by omega
        clear hm2 hg2 HM1 HO1 HZ HNE HSL HZ2
        go_wp2_with (at_builtin; refine wpList_append_opt _ rfl _ _ 64 rfl w.heap.size 70 i0 (.agg #[.int .i64 0, .int .i64 0, .int .i64 0, .int .i64 0]) 4 32 Try.underlying64 HQ.out.1 HQ.out.2.1 HQ.out.2.2.1 HQ.out.2.2.2 rfl (by decide) _ _ _ rfl HRA.out (some ⟨w2.heap.size, 0, none⟩) 1 1 (fl [(⟨c3, 2, c0, c1⟩ : St)]) rfl rfl (fun h => by cases h) (fun ad had => by injection had with had; subst had; exact HLC.out) (fl_one _) hcap1 hcap2 HB2.out ?_)
        intro v2 w3 o2 g3 _
        have HD := Lib.hid (rec_app HO2.out HN.out HM2.out o2 g3)
        clear o2 g3 HO2 HM2 HRA HLC HB2 b0 b1 b2 b3 b4 b5 b6
        go_wp2_with fail
        go_roundw
        case rel => exact ⟨k + 1, by omega, by go_num, Lib.hid (by rw [ES.out]; exact HD.out.1), Lib.hid ⟨m + 1, _, by omega, HD.out.2, by rw [ES.out]; exact RI3.out⟩⟩
        case measure => simp [intOf]; omega
      · subst h
        have ES : Hid (recL (cs.take (k + 1)) = R ++ [(⟨c3, 3, c0, c1⟩ : St)]) := Lib.hid (by rw [ES0.out]; rfl)
        have HO1 : Hid (OwnL 70 4 encC w (.slice A N cc) R (wr.alloc (.cells #[.int .i64 c0, .int .i64 c1, .int .i64 c2, .int .i64 c3, .int .i64 3, .int .i64 c5, .int .i64 c6] 26))) := Lib.hid (OwnL.alloc HO.out _)
        have HM1 : Hid (MapK (wr.alloc (.cells #[.int .i64 c0, .int .i64 c1, .int .i64 c2, .int .i64 c3, .int .i64 3, .int .i64 c5, .int .i64 c6] 26)) w.heap.size m g) := Lib.hid (HMK.out.block (Below.heap_alloc _ _ _ HMK.out.lt))
        have HZ : Hid (At7 (wr.alloc (.cells #[.int .i64 c0, .int .i64 c1, .int .i64 c2, .int .i64 c3, .int .i64 3, .int .i64 c5, .int .i64 c6] 26)) wr.heap.size (⟨c0, c1, c2, c3, 3, c5, c6⟩ : Ev)) := Lib.hid (by unfold At7; refine ⟨?_, ?_, ?_, ?_, ?_, ?_, ?_⟩ <;> go_simp)
        have HNE : Hid (some wr.heap.size ≠ some w.heap.size) := Lib.hid (fun e => by injection e with e; have := HMK.out.lt; omega)
        have HSL := Lib.hid (show wr.heap.size < (wr.alloc (.cells #[.int .i64 c0, .int .i64 c1, .int .i64 c2, .int .i64 c3, .int .i64 3, .int .i64 c5, .int .i64 c6] 26)).heap.size by simp)
        have RI3 : Hid (RecI (R ++ [(⟨c3, 3, c0, c1⟩ : St)]) (putF g c0 c1 (some (N : Int)))) := Lib.hid (by have := HRI.out.step (⟨c3, 3, c0, c1⟩ : St) (fun j hj => AP.out j (by have := HN.out; omega)); rwa [HN.out] at this)
        clear HO HMK ES0 HRI AP
        go_wp2_with (at_mapUpdate; refine wpList_putK rfl _ _ _ rfl rfl HM1.out (by unfold maxLen; omega) (N : Int) rfl rfl HW0.out HW1.out HWN.out ?_)
        intro w2 hm2 hg2
        have HO2 := Lib.hid (rec_put HO1.out HM1.out (Nat.le_refl _) hg2)
        have HM2 := Lib.hid hm2
        have HZ2 := Lib.hid (HZ.out.block (hg2.block _ HSL.out HNE.out))
        have HB2 : Hid (w.heap.size ≤ (w2.alloc (.cells #[.int .i64 c3, .int .i64 3, .int .i64 c0, .int .i64 c1] 70)).heap.size) := Lib.hid ((OwnL.alloc HO2.out _).below.size)
        obtain ⟨b0, b1, b2, b3, b4, b5, b6⟩ := HZ2.out
        simp only at b0 b1 b2 b3 b4 b5 b6
        have HRA : Hid ((w2.alloc (.cells #[.int .i64 c3, .int .i64 3, .int .i64 c0, .int .i64 c1] 70)).ownsRow w.heap.size 70 4 (.slice A N cc) N (R.flatMap encC)) := Lib.hid (by have := (OwnL.alloc HO2.out (.cells #[.int .i64 c3, .int .i64 3, .int .i64 c0, .int .i64 c1] 70)).row; rwa [HN.out] at this)
        have HLC := Lib.hid (cells_row (cs := [(⟨c3, 3, c0, c1⟩ : St)]) (n := 1) rfl (x := ⟨w2.heap.size, 0, none⟩) (w := w2.alloc (.cells #[.int .i64 c3, .int .i64 3, .int .i64 c0, .int .i64 c1] 70)) (fun i hi => by obtain rfl : i = 0 := (by omega); exact (Bz.new w2 (⟨c3, 3, c0, c1⟩ : St) 70).bx.at4))
        have hcap1 : N + 1 ≤ maxLen := by unfold maxLen; omega
        have hcap2 : (N + 1) * 32 ≤ 140737488355328 := by omega
        clear hm2 hg2 HM1 HO1 HZ HNE HSL HZ2
        go_wp2_with (at_builtin; refine wpList_append_opt _ rfl _ _ 64 rfl w.heap.size 70 i0 (.agg #[.int .i64 0, .int .i64 0, .int .i64 0, .int .i64 0]) 4 32 Try.underlying64 HQ.out.1 HQ.out.2.1 HQ.out.2.2.1 HQ.out.2.2.2 rfl (by decide) _ _ _ rfl HRA.out (some ⟨w2.heap.size, 0, none⟩) 1 1 (fl [(⟨c3, 3, c0, c1⟩ : St)]) rfl rfl (fun h => by cases h) (fun ad had => by injection had with had; subst had; exact HLC.out) (fl_one _) hcap1 hcap2 HB2.out ?_)
        intro v2 w3 o2 g3 _
        have HD := Lib.hid (rec_app HO2.out HN.out HM2.out o2 g3)
        clear o2 g3 HO2 HM2 HRA HLC HB2 b0 b1 b2 b3 b4 b5 b6
        go_wp2_with fail
        go_roundw
        case rel => exact ⟨k + 1, by omega, by go_num, Lib.hid (by rw [ES.out]; exact HD.out.1), Lib.hid ⟨m + 1, _, by omega, HD.out.2, by rw [ES.out]; exact RI3.out⟩⟩
        case measure => simp [intOf]; omega
      · subst h
        have ES : Hid (recL (cs.take (k + 1)) = R ++ [(⟨c3, 4, c0, c1⟩ : St)]) := Lib.hid (by rw [ES0.out]; rfl)
        have HO1 : Hid (OwnL 70 4 encC w (.slice A N cc) R (wr.alloc (.cells #[.int .i64 c0, .int .i64 c1, .int .i64 c2, .int .i64 c3, .int .i64 4, .int .i64 c5, .int .i64 c6] 26))) := Lib.hid (OwnL.alloc HO.out _)
        have HM1 : Hid (MapK (wr.alloc (.cells #[.int .i64 c0, .int .i64 c1, .int .i64 c2, .int .i64 c3, .int .i64 4, .int .i64 c5, .int .i64 c6] 26)) w.heap.size m g) := Lib.hid (HMK.out.block (Below.heap_alloc _ _ _ HMK.out.lt))
        have HZ : Hid (At7 (wr.alloc (.cells #[.int .i64 c0, .int .i64 c1, .int .i64 c2, .int .i64 c3, .int .i64 4, .int .i64 c5, .int .i64 c6] 26)) wr.heap.size (⟨c0, c1, c2, c3, 4, c5, c6⟩ : Ev)) := Lib.hid (by unfold At7; refine ⟨?_, ?_, ?_, ?_, ?_, ?_, ?_⟩ <;> go_simp)
        have HNE : Hid (some wr.heap.size ≠ some w.heap.size) := Lib.hid (fun e => by injection e with e; have := HMK.out.lt; omega)
        have HSL := Lib.hid (show wr.heap.size < (wr.alloc (.cells #[.int .i64 c0, .int .i64 c1, .int .i64 c2, .int .i64 c3, .int .i64 4, .int .i64 c5, .int .i64 c6] 26)).heap.size by simp)
        have RI3 : Hid (RecI (R ++ [(⟨c3, 4, c0, c1⟩ : St)]) (putF g c0 c1 (some (N : Int)))) := Lib.hid (by have := HRI.out.step (⟨c3, 4, c0, c1⟩ : St) (fun j hj => AP.out j (by have := HN.out; omega)); rwa [HN.out] at this)
        clear HO HMK ES0 HRI AP
        go_wp2_with (at_mapUpdate; refine wpList_putK rfl _ _ _ rfl rfl HM1.out (by unfold maxLen; omega) (N : Int) rfl rfl HW0.out HW1.out HWN.out ?_)
        intro w2 hm2 hg2
        have HO2 := Lib.hid (rec_put HO1.out HM1.out (Nat.le_refl _) hg2)
        have HM2 := Lib.hid hm2
        have HZ2 := Lib.hid (HZ.out.block (hg2.block _ HSL.out HNE.out))
        have HB2 : Hid (w.heap.size ≤ (w2.alloc (.cells #[.int .i64 c3, .int .i64 4, .int .i64 c0, .int .i64 c1] 70)).heap.size) := Lib.hid ((OwnL.alloc HO2.out _).below.size)
        obtain ⟨b0, b1, b2, b3, b4, b5, b6⟩ := HZ2.out
        simp only at b0 b1 b2 b3 b4 b5 b6
        have HRA : Hid ((w2.alloc (.cells #[.int .i64 c3, .int .i64 4, .int .i64 c0, .int .i64 c1] 70)).ownsRow w.heap.size 70 4 (.slice A N cc) N (R.flatMap encC)) := Lib.hid (by have := (OwnL.alloc HO2.out (.cells #[.int .i64 c3, .int .i64 4, .int .i64 c0, .int .i64 c1] 70)).row; rwa [HN.out] at this)
        have HLC := Lib.hid (cells_row (cs := [(⟨c3, 4, c0, c1⟩ : St)]) (n := 1) rfl (x := ⟨w2.heap.size, 0, none⟩) (w := w2.alloc (.cells #[.int .i64 c3, .int .i64 4, .int .i64 c0, .int .i64 c1] 70)) (fun i hi => by obtain rfl : i = 0 := (by omega); exact (Bz.new w2 (⟨c3, 4, c0, c1⟩ : St) 70).bx.at4))
        have hcap1 : N + 1 ≤ maxLen := by unfold maxLen; omega
        have hcap2 : (N + 1) * 32 ≤ 140737488355328 := by omega
        clear hm2 hg2 HM1 HO1 HZ HNE HSL HZ2
        go_wp2_with (at_builtin; refine wpList_append_opt _ rfl _ _ 64 rfl w.heap.size 70 i0 (.agg #[.int .i64 0, .int .i64 0, .int .i64 0, .int .i64 0]) 4 32 Try.underlying64 HQ.out.1 HQ.out.2.1 HQ.out.2.2.1 HQ.out.2.2.2 rfl (by decide) _ _ _ rfl HRA.out (some ⟨w2.heap.size, 0, none⟩) 1 1 (fl [(⟨c3, 4, c0, c1⟩ : St)]) rfl rfl (fun h => by cases h) (fun ad had => by injection had with had; subst had; exact HLC.out) (fl_one _) hcap1 hcap2 HB2.out ?_)
        intro v2 w3 o2 g3 _
        have HD := Lib.hid (rec_app HO2.out HN.out HM2.out o2 g3)
        clear o2 g3 HO2 HM2 HRA HLC HB2 b0 b1 b2 b3 b4 b5 b6
        go_wp2_with fail
        go_roundw
        case rel => exact ⟨k + 1, by omega, by go_num, Lib.hid (by rw [ES.out]; exact HD.out.1), Lib.hid ⟨m + 1, _, by omega, HD.out.2, by rw [ES.out]; exact RI3.out⟩⟩
        case measure => simp [intOf]; omega
      · have ES : Hid (recL (cs.take (k + 1)) = R) := Lib.hid (by rw [ES0.out]; simp [isS]; omega)
        have e1 : decide (c4 = 1) = false := decide_eq_false (by omega)
        have e2 : decide (c4 = 2) = false := decide_eq_false (by omega)
        have e3 : decide (c4 = 3) = false := decide_eq_false (by omega)
        have e4 : decide (c4 = 4) = false := decide_eq_false (by omega)
        have HO1 : Hid (OwnL 70 4 encC w (.slice A N cc) R (wr.alloc (.cells #[.int .i64 c0, .int .i64 c1, .int .i64 c2, .int .i64 c3, .int .i64 c4, .int .i64 c5, .int .i64 c6] 26))) := Lib.hid (OwnL.alloc HO.out _)
        have HM1 : Hid (MapK (wr.alloc (.cells #[.int .i64 c0, .int .i64 c1, .int .i64 c2, .int .i64 c3, .int .i64 c4, .int .i64 c5, .int .i64 c6] 26)) w.heap.size m g) := Lib.hid (HMK.out.block (Below.heap_alloc _ _ _ HMK.out.lt))
        clear HO HMK ES0 AP
        go_wp2_with fail
        go_roundw
        case rel => exact ⟨k + 1, by omega, by go_num, Lib.hid (by rw [ES.out]; exact HO1.out), Lib.hid ⟨m, g, by omega, HM1.out, by rw [ES.out]; exact HRI.out⟩⟩
        case measure => simp [intOf]; omega
    · have t0 : decide ((k : Int) < (n : Int)) = false := decide_eq_false (by omega)
      obtain ⟨m, g, hm, hM, hI⟩ := HM.out
      have HMM := Lib.hid hM
      have EK : cs.take k = cs := List.take_of_length_le (by rw [HL.out]; omega)
      rw [EK] at HO hI
      have HI := Lib.hid hI
      clear HM hM hI EK HK HP HR
      go_wp2_with fail
      go_ret2
      exact ⟨_, _, m, g, rfl, HO.out, HMM.out, HI.out, Nat.le_refl _, by omega⟩
end Go.Proofs.Ytebdldinlodgpaa.Ib
