/-
  Layer 8 (inbox): the contract of Conflicts. Condition: the list reads as events.
-/
import Derived.Test.YtebdldinlodgpaaPrIw
import Derived.Test.YtebdldinlodgpaaPrIy
namespace Go.Proofs.Ytebdldinlodgpaa.Ib
open Go Go.RowKit Go.Lib Go.Sort Go.Shelf Go.Proofs Go.Proofs.Ytebdldinlodgpaa Go.Proofs.Ytebdldinlodgpaa.Tp Go.Proofs.Ytebdldinlodgpaa.Gm Go.Proofs.Ytebdldinlodgpaa.Rc Go.Proofs.Ytebdldinlodgpaa.SK
set_option linter.unusedVariables false

theorem infoKy : ∃ i0 : TypeInfo, Try.prog.info? 24 = some i0 ∧ i0.zero = some (.agg #[.int .i64 0, .int .i64 0]) ∧ i0.size = 2 ∧ i0.bytes = 16 := by
  have h : (Try.prog.info? 24).map (fun i => (i.zero, i.size, i.bytes)) = some (some (.agg #[.int .i64 0, .int .i64 0]), 2, 16) := by kernel_rfl
  obtain ⟨i0, hi, hz0, hz1, hz2⟩ := info_parts h
  exact ⟨i0, hi, hz0, hz1, hz2⟩
/-- The keys of the first i events that are alike the event before. -/
def dupL (s : List Ev) (i : Nat) : List Ky := ((List.range i).filter fun j => decide (0 < j) && eqKE s[j]! s[j - 1]!).map fun j => ⟨s[j]!.kt, s[j]!.ks⟩
theorem dupL_succ (s : List Ev) (i : Nat) (hi : 0 < i) : dupL s (i + 1) = dupL s i ++ (if eqKE s[i]! s[i - 1]! then [⟨s[i]!.kt, s[i]!.ks⟩] else []) := by
  unfold dupL
  rw [List.range_succ, List.filter_append, List.map_append]
  congr 1
  rw [List.filter_cons, decide_eq_true hi, Bool.true_and]
  by_cases h : eqKE s[i]! s[i - 1]! = true
  · rw [if_pos h, if_pos h]; rfl
  · rw [if_neg h, if_neg h]; rfl
theorem dupL_one (s : List Ev) : dupL s 1 = [] := rfl
theorem dupL_len (s : List Ev) (i : Nat) : (dupL s i).length ≤ i := by
  unfold dupL
  rw [List.length_map]
  exact Nat.le_trans (List.length_filter_le _ _) (by simp)
def conL (l : List Ev) : List Ky := comp SK.eqC (dupL (setL cmpE l) (setL cmpE l).length)
def conF (l : List Ev) : List Ky := if effE l = 0 then conL l else []
def OwnPK (l : List Ky) (B : Nat) (a : Option Addr) (cap : Nat) (w' : World) : Prop := (a = none ∧ l = [] ∧ cap = 0) ∨ ∃ g, a = some ⟨g, 0, none⟩ ∧ RowC w' g l.toArray ∧ B ≤ g ∧ g < w'.heap.size ∧ l.length ≤ cap
def ConR (l : List Ev) (w : World) (e : Ending) (w' : World) : Prop := ∃ a cap, e = .returned (.tuple #[.slice a (conF l).length cap, .int .i64 (effE l)]) ∧ OwnPK (conF l) w.heap.size a cap w' ∧ Below w.heap.size w w'
theorem con_bad (w w' : World) {l : List Ev} {x : Int} (h : effE l = x) (hx : x ≠ 0) (hb : Below w.heap.size w w') : ConR l w (.returned (.tuple #[.slice none 0 0, .int .i64 x])) w' := by
  unfold ConR conF
  rw [h, if_neg hx]
  exact ⟨none, 0, rfl, .inl ⟨rfl, rfl, rfl⟩, hb⟩
theorem con_good (w w' : World) {l : List Ev} (h : effE l = 0) {a : Option Addr} {n cap : Nat} (hn : (conL l).length = n) (ho : OwnPK (conL l) w.heap.size a cap w') (hb : Below w.heap.size w w') : ConR l w (.returned (.tuple #[.slice a n cap, .int .i64 0])) w' := by
  unfold ConR conF
  rw [h, if_pos rfl, hn]
  exact ⟨a, cap, rfl, ho, hb⟩
def CpsK (L : List Ky) (a : Option Addr) (B : Nat) (W : World) (e : Ending) (w' : World) : Prop := ∃ cap', e = .returned (.slice a (comp SK.eqC L).length cap') ∧ OwnPK (comp SK.eqC L) B a cap' w' ∧ Below B W w'
theorem cps_keys (B : Nat) (w0 W : World) (A : Option Addr) (N cc : Nat) (L : List Ky) (hO : OwnL 24 2 encC w0 (.slice A N cc) L W) (hN : L.length = N) (hB : w0.heap.size = B) (hL : N ≤ 100000) :
    Calls Try.prog 79 #[.slice A N cc] W (CpsK L A B W) := by
  subst hB
  rcases OwnL.form hO with ⟨e, rfl⟩ | ⟨gs, cap, e, _⟩
  · injection e with e1 e2 e3
    subst e1 e2 e3
    refine (SK.cps_none _).mono ?_
    rintro e w' ⟨rfl, rfl⟩
    exact ⟨0, rfl, .inl ⟨rfl, rfl, rfl⟩, Below.refl _ _⟩
  · injection e with e1 e2 e3
    subst e1 e3
    obtain ⟨r1, r2, r3, r4⟩ := own_row (cs := L) (by have := hO.row; rw [hN] at this; exact this) hN
    have C := SK.cps_own gs cc L.toArray W r1 r3 (by simp; omega) (by simp; omega)
    rw [show L.toArray.toList = L from rfl, show L.toArray.size = N by simp [hN]] at C
    refine C.mono ?_
    rintro e w' ⟨rfl, hr', ho⟩
    exact ⟨cc, rfl, .inr ⟨gs, rfl, hr', r2, Nat.lt_of_lt_of_le r3 ho.size, Nat.le_trans (comp_length _ _) (by omega)⟩, ho.below r2 hO.below.size⟩
set_option maxRecDepth 100000 in
set_option maxHeartbeats 8000000 in
theorem conflicts_any (a : Option Addr) (n c : Nat) (l : List Ev) (w : World) (ha : Lst w a n c l) :
    Calls Try.prog 59 #[.slice a n c] w (ConR l w) := by
  have HA := Lib.hid ha
  have LA := Lib.hid ha.1.1
  have P1 := Lib.hid (one_any w a n c l ha 44)
  have C1 := Lib.hid (check_any w.heap.size 1 1 [⟨a, n, c, l⟩] rfl (by decide) _ P1.out)
  rw [chk_one a n c l ha.1.1] at C1
  have B1 : Hid (Below w.heap.size w (w.alloc (.cells #[.slice a n c] 44))) := Lib.hid ((Below.refl _ _).alloc (Nat.le_refl _) _)
  clear ha P1
  by_cases h0 : effE l = 0
  · have E := Lib.hid h0
    rw [h0] at C1
    have h1024 : l.length ≤ 1024 := by
      unfold effE at h0
      by_cases h : 1024 < l.length
      · rw [if_pos h] at h0; cases h0
      · omega
    have hn : n ≤ 1024 := by have := LA.out; omega
    have SB : Hid ((setL cmpE l).length ≤ 1024) := Lib.hid (Nat.le_trans (setL_length (cmp := cmpE) l) h1024)
    have GOOD := Lib.hid (fun w' a n cap hn ho hb => con_good w w' (l := l) h0 (a := a) (n := n) (cap := cap) hn ho hb)
    have AS := Lib.hid (fun W h => ascending_any W.heap.size 1 1 [⟨a, n, c, l⟩] rfl (by decide) (by simp [sumN]; omega) (W.alloc (.cells #[.slice a n c] 44)) (one_any W a n c l h 44))
    rw [show catN [⟨a, n, c, l⟩] 1 = l by simp [catN]] at AS
    rw [show conL l = comp SK.eqC (dupL (setL cmpE l) (setL cmpE l).length) from rfl] at GOOD
    obtain ⟨i0, hi0, hz0, hz1, hz2⟩ := infoKy
    have HQ := Lib.hid (And.intro hi0 (And.intro hz0 (And.intro hz1 hz2)))
    clear h0 h1024 E hi0 hz0 hz1 hz2
    unfold OwnO at AS
    generalize setL cmpE l = S at *
    go_enter Try.func59, Try.ntmps59
    go_wp2_with fail
    refine C1.out.mono ?_
    rintro e w2 ⟨rfl, g2⟩
    have B2 := Lib.hid (B1.out.trans (g2.below.mono B1.out.size))
    have AS2 := Lib.hid (AS.out w2 (HA.out.more B2.out))
    have B2a := Lib.hid (B2.out.alloc B2.out.size (.cells #[.slice a n c] 44))
    clear g2 C1 B1 AS HA
    go_wp2_with fail
    refine AS2.out.mono ?_
    rintro e w3 ⟨a3, cap3, rfl, ho, hb3⟩
    have L3 := Lib.hid (OwnO.lst ho (by have := SB.out; omega))
    have B3 := Lib.hid (B2a.out.trans (hb3.mono B2a.out.size))
    clear ho hb3 AS2 B2 B2a
    generalize hM : S.length = M at *
    have HM := Lib.hid hM
    have hM2 : M ≤ 1024 := SB.out
    clear hM SB
    go_wp2_with fail
    go_loopw [5, 7] (fun v z wr => ∃ i : Nat, 1 ≤ i ∧ (i ≤ M ∨ i = 1) ∧ z = .int .i64 i ∧ Hid (OwnL 24 2 encC w3 v (dupL S i) wr)) (fun _ z _ => M - (intOf z).toNat)
    case atStart => exact ⟨1, Nat.le_refl _, .inr rfl, rfl, Lib.hid (OwnL.nil _ _ _ _)⟩
    case round =>
      obtain ⟨i, hi1, hi2, rfl, HO⟩ := hrel
      obtain ⟨A, cc, hv, _, _⟩ := OwnL.src HO.out
      subst hv
      have NB : Hid ((dupL S i).length ≤ i) := Lib.hid (dupL_len S i)
      by_cases hlt : i < M
      · have t0 : decide ((i : Int) < (M : Int)) = true := decide_eq_true (by omega)
        have i1 : (i : Int) < (M : Int) := by omega
        have i2 : (0 : Int) ≤ (i : Int) := by omega
        obtain ⟨j, hj⟩ : ∃ j, j = i - 1 := ⟨_, rfl⟩
        have j1 : IntKind.i64.wrap ((i : Int) - 1) = (j : Int) := by rw [IntKind.wrap_i64]; omega
        have j2 : (i : Int) - 1 = (j : Int) := by omega
        have j3 : (j : Int) < (M : Int) := by omega
        have j4 : (0 : Int) ≤ (j : Int) := by omega
        have hjM : j < M := by omega
        obtain ⟨x, hx0, _, hc⟩ := (L3.out.more (OwnL.below HO.out)).1.2 (by omega)
        subst hx0
        obtain ⟨a0, a1, _⟩ := hc i hlt
        obtain ⟨d0, d1, _⟩ := hc j hjM
        have ES := Lib.hid (dupL_succ S i (by omega))
        rw [← hj] at ES
        clear hc hj
        generalize S[i]! = ei at *
        generalize S[j]! = ej at *
        obtain ⟨c0, c1, c2, c3, c4, c5, c6⟩ := ei
        obtain ⟨p0, p1, p2, p3, p4, p5, p6⟩ := ej
        unfold eqKE at ES
        simp only at a0 a1 d0 d1 ES
        generalize hR : dupL S i = R at *
        generalize hN : R.length = N at *
        have HN := Lib.hid hN
        have hNi : N ≤ i := NB.out
        have HE := fun W => eql_key c0 c1 p0 p1 W
        have HG := fun op a b W => run_eqGuard_agg (P := Try.prog) W op 24 a b #[.int .i64 c0, .int .i64 c1] #[.int .i64 p0, .int .i64 p1] grd_key
        clear hN NB hR
        cases hb : eqK2 c0 c1 p0 p1 with
        | false =>
          rw [hb] at HE ES
          have ES2 : Hid (dupL S (i + 1) = R) := Lib.hid (by rw [ES.out]; simp)
          clear ES hb
          go_wp2_with fail
          go_quiet (fail)
          have HO2 := Lib.hid (OwnL.more HO.out (Gr.drewN (Gr.refl _) nq).below)
          clear HO HE HG a0 a1 d0 d1
          go_wp2_with fail
          go_roundw
          case rel => exact ⟨i + 1, by omega, .inl (by omega), by go_num, by rw [ES2.out]; exact HO2⟩
          case measure => simp [intOf]; omega
        | true =>
          rw [hb] at HE ES
          have ES2 : Hid (dupL S (i + 1) = R ++ [(⟨c0, c1⟩ : Ky)]) := Lib.hid (by rw [ES.out]; simp)
          clear ES hb
          go_wp2_with fail
          go_quiet (fail)
          have HO2 := Lib.hid (OwnL.more HO.out (Gr.drewN (Gr.refl _) nq).below)
          have q0 : (wr.drewN nq).cell? _ = _ := a0
          have q1 : (wr.drewN nq).cell? _ = _ := a1
          clear HO HE HG a0 a1 d0 d1
          generalize wr.drewN nq = wq at *
          have HRA : Hid ((wq.alloc (.cells #[.int .i64 c0, .int .i64 c1] 24)).ownsRow w3.heap.size 24 2 (.slice A N cc) N (R.flatMap encC)) := Lib.hid (by have := (OwnL.alloc HO2.out (.cells #[.int .i64 c0, .int .i64 c1] 24)).row; rwa [HN.out] at this)
          have HLC := Lib.hid (cells_row (cs := [(⟨c0, c1⟩ : Ky)]) (n := 1) rfl (x := ⟨wq.heap.size, 0, none⟩) (w := wq.alloc (.cells #[.int .i64 c0, .int .i64 c1] 24)) (fun i hi => by obtain rfl : i = 0 := (by omega); exact ⟨by go_simp, by go_simp⟩))
          have HB2 : Hid (w3.heap.size ≤ (wq.alloc (.cells #[.int .i64 c0, .int .i64 c1] 24)).heap.size) := Lib.hid ((OwnL.alloc HO2.out _).below.size)
          have hcap1 : N + 1 ≤ maxLen := by unfold maxLen; omega
          have hcap2 : (N + 1) * 16 ≤ 140737488355328 := by omega
          go_wp2_with (at_builtin; refine wpList_append_opt _ rfl _ _ 87 rfl w3.heap.size 24 i0 (.agg #[.int .i64 0, .int .i64 0]) 2 16 Try.underlying87 HQ.out.1 HQ.out.2.1 HQ.out.2.2.1 HQ.out.2.2.2 rfl (by decide) _ _ _ rfl HRA.out (some ⟨wq.heap.size, 0, none⟩) 1 1 (fl [(⟨c0, c1⟩ : Ky)]) rfl rfl (fun h => by cases h) (fun ad had => by injection had with had; subst had; exact HLC.out) (fl_one _) hcap1 hcap2 HB2.out ?_)
          intro v2 w4 o2 g4 _
          have HO4 := Lib.hid (OwnL.grown (m := [(⟨c0, c1⟩ : Ky)]) (OwnL.alloc HO2.out (.cells #[.int .i64 c0, .int .i64 c1] 24)) (by rw [HN.out]; exact o2) g4)
          clear o2 g4 HO2 HRA HLC HB2 q0 q1
          go_wp2_with fail
          go_roundw
          case rel => exact ⟨i + 1, by omega, .inl (by omega), by go_num, by rw [ES2.out]; exact HO4⟩
          case measure => simp [intOf]; omega
      · have t0 : decide ((i : Int) < (M : Int)) = false := decide_eq_false (by omega)
        have ED : dupL S i = dupL S M := by
          rcases hi2 with h | h
          · rw [show i = M by omega]
          · subst h
            obtain h | h : M = 0 ∨ M = 1 := by omega
            · subst h; rfl
            · subst h; rfl
        rw [ED] at HO NB
        have CK := Lib.hid (cps_keys w3.heap.size w3 wr A (dupL S M).length cc (dupL S M) HO.out rfl rfl (by have := dupL_len S M; omega))
        have BW := Lib.hid (OwnL.below HO.out)
        unfold CpsK at CK
        rw [ED]
        clear ED HO NB L3
        generalize comp SK.eqC (dupL S M) = U at *
        generalize (dupL S M).length = NU at *
        go_wp2_with fail
        refine CK.out.mono ?_
        rintro e w7 ⟨cap7, rfl, hp7, hb7⟩
        have B8 := Lib.hid (B3.out.trans ((BW.out.trans hb7).mono B3.out.size))
        have P8 : Hid (OwnPK U w.heap.size A cap7 w7) := Lib.hid (by
          rcases hp7 with h | ⟨g, h1, h2, h3, h4⟩
          · exact .inl h
          · exact .inr ⟨g, h1, h2, Nat.le_trans B3.out.size h3, h4⟩)
        clear hp7 hb7 CK BW
        go_wp2_with fail
        go_ret2
        exact GOOD.out _ A U.length cap7 rfl P8.out B8.out
  · have E := Lib.hid h0
    have BAD := Lib.hid (fun w' hb => con_bad w w' (l := l) (x := effE l) rfl h0 hb)
    have NE : Hid (decide (effE l = 0) = false) := Lib.hid (decide_eq_false h0)
    clear h0
    generalize effE l = x at *
    have t0 : decide (x = 0) = false := NE.out
    have t1 : ¬ x = 0 := E.out
    go_enter Try.func59, Try.ntmps59
    go_wp2_with fail
    refine C1.out.mono ?_
    rintro e w2 ⟨rfl, g2⟩
    have B2 := Lib.hid (B1.out.trans (g2.below.mono B1.out.size))
    clear g2 C1
    go_wp2_with fail
    go_ret2
    exact BAD.out _ B2.out
end Go.Proofs.Ytebdldinlodgpaa.Ib
