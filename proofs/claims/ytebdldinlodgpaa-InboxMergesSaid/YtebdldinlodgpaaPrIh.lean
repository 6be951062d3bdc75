/-
  Layer 8 (inbox): the contract of the reference's union. Condition: the lists read as events; they are not too long.
-/
import Derived.Test.YtebdldinlodgpaaPrIg
import Derived.Deep.RegionHeld3
import Derived.Deep.DeepCutAuto
import Derived.Deep.Cut
namespace Go.Proofs.Ytebdldinlodgpaa.Ib
open Go Go.RowKit Go.Lib Go.Sort Go.Shelf Go.Proofs Go.Proofs.Ytebdldinlodgpaa Go.Proofs.Ytebdldinlodgpaa.Tp Go.Proofs.Ytebdldinlodgpaa.Gm Go.Proofs.Ytebdldinlodgpaa.Rc Go.Proofs.Ytebdldinlodgpaa.SE
set_option linter.unusedVariables false

theorem cmpI_anti (a b : Int) : cmpI b a = - cmpI a b := by unfold cmpI; split <;> (try split) <;> (try split) <;> omega
theorem cmpL_anti : ∀ l m : List Int, cmpL m l = - cmpL l m
  | [], [] => rfl
  | [], _ :: _ => by simp [cmpL]
  | _ :: _, [] => by simp [cmpL]
  | a :: l, b :: m => by
    rw [cmpL, cmpL, cmpI_anti a b, cmpL_anti l m]
    by_cases h : cmpI a b = 0
    · simp [h]
    · simp [h]
theorem cmpE_pos (a b : Ev) : 0 < cmpE a b ↔ cmpE b a < 0 := by unfold cmpE; rw [cmpL_anti (nsE a) (nsE b)]; omega
theorem row_alloc {W : World} {b n : Nat} {v : Value} {xs : List Value} {t : TypeId} {z : Nat} (h : W.ownsRow b t z v n xs) (o : Obj) : (W.alloc o).ownsRow b t z v n xs := by
  refine ⟨h.1, ?_⟩
  rcases h.2 with h0 | ⟨g, cap, cur, e, h1, h2, h3⟩
  · exact .inl h0
  · exact .inr ⟨g, cap, cur, e, h1, (Below.heap_alloc W o g (Array.getElem?_eq_some_iff.1 h2).1).trans h2, h3⟩
/-- The place of c in a set, found from its end. -/
theorem un_put {l : List Ev} {i : Nat} {out : List Ev} {c : Ev} (h : UnI cmpE l i out) (hi : i < l.length) (hc : l[i] = c) (p : Nat) (hp : p ≤ out.length) (h1 : ∀ t, p ≤ t → t < out.length → 0 < cmpE out[t]! c)
    (h2 : 0 < p → cmpE out[p - 1]! c ≤ 0) (h3 : 0 < p → out[p - 1]! ≠ c) : UnI cmpE l (i + 1) (ins out p c) := by
  subst hc
  refine h.put totE hi p hp (fun t ht => ?_) (fun hl hn => ?_) (fun hl e => ?_)
  · have hlt : cmpE out[p - 1]! l[i] < 0 := by
      rcases totE.tri out[p - 1]! l[i] with k | k | k
      · exact k
      · exact absurd k (h3 (by omega))
      · have k1 := (cmpE_pos _ _).2 k
        have k2 := h2 (by omega)
        omega
    by_cases e : t = p - 1
    · rw [e]; exact hlt
    · have hpw := List.pairwise_iff_getElem.1 h.2.1 t (p - 1) (by omega) (by omega) (by omega)
      rw [← getElem!_pos out t (by omega), ← getElem!_pos out (p - 1) (by omega)] at hpw
      exact totE.tr hpw hlt
  · exact totE.as hn ((cmpE_pos _ _).1 (h1 p (Nat.le_refl _) hl))
  · have := h1 p (Nat.le_refl _) hl
    rw [e] at this
    exact totE.irr _ ((cmpE_pos _ _).1 this)
theorem un_same {l : List Ev} {i : Nat} {out : List Ev} {c : Ev} (h : UnI cmpE l i out) (hi : i < l.length) (hc : l[i] = c) (j : Nat) (hj : j < out.length) (he : out[j]! = c) : UnI cmpE l (i + 1) out :=
  h.same hi j hj (he.trans hc.symm)
set_option maxRecDepth 100000 in
set_option maxHeartbeats 16000000 in
theorem union_any (a : Option Addr) (na ca : Nat) (l : List Ev) (b : Option Addr) (nb cb : Nat) (m : List Ev) (w : World) (hab : na + nb ≤ 100000) (ha : Lst w a na ca l) (hb : Lst w b nb cb m) :
    Calls Try.prog 77 #[.slice a na ca, .slice b nb cb] w (OwnO (setL cmpE (l ++ m)) w) := by
  have HA := Lib.hid ha
  have HB := Lib.hid hb
  have LA := Lib.hid ha.1.1
  have LB := Lib.hid hb.1.1
  clear ha hb
  obtain ⟨i0, hi0, hz0, hz1, hz2⟩ := infoEv
  have HQ := Lib.hid (And.intro hi0 (And.intro hz0 (And.intro hz1 hz2)))
  clear hi0 hz0 hz1 hz2
  obtain ⟨S, hS⟩ : ∃ S, S = na + nb := ⟨_, rfl⟩
  have HS := Lib.hid hS
  have LEN := Lib.hid (show (l ++ m).length = S by rw [List.length_append, LA.out, LB.out, hS])
  have hs1 : S ≤ 100000 := by omega
  have w1' : IntKind.i64.wrap ((na : Int) + (nb : Int)) = (S : Int) := by rw [IntKind.wrap_i64]; omega
  have w3' : (na : Int) + (nb : Int) = (S : Int) := by omega
  have mixed : Try.prog.follows Departure.mixedOrders = true := by kernel_rfl
  clear hS
  go_enter Try.func77, Try.ntmps77
  go_wp2_with fail
  go_loopw [5, 6] (fun v z wr => ∃ (i : Nat) (out : List Ev), i ≤ S ∧ z = .int .i64 i ∧ Hid (OwnG w v out wr) ∧ Hid (UnI cmpE (l ++ m) i out) ∧ Hid (out = [] → v = .slice none 0 0)) (fun _ z _ => S - (intOf z).toNat)
  case atStart => exact ⟨0, [], by omega, rfl, Lib.hid (OwnG.nil w), Lib.hid (UnI.start _), Lib.hid fun _ => rfl⟩
  case round =>
    obtain ⟨i, out, hi, rfl, HO, HU, HZ⟩ := hrel
    by_cases hlt : i < S
    · have hd0 : decide ((i : Int) < (S : Int)) = true := decide_eq_true (by omega)
      have hil : i < (l ++ m).length := by have := LEN.out; omega
      obtain ⟨c, hc⟩ : ∃ c, (l ++ m)[i] = c := ⟨_, rfl⟩
      have US := Lib.hid (fun j hj he => un_same HU.out hil hc j hj he)
      have UP := Lib.hid (fun p hp h1 h2 h3 => un_put HU.out hil hc p hp h1 h2 h3)
      have hol : out.length ≤ 100000 := by have := HU.out.1; omega
      have CA : Hid (∀ W, Below wr.heap.size wr W → i < na → ∃ x, a = some x ∧ At4 W (x.add (i * 7)) c) := Lib.hid (fun W hW hia => by
        obtain ⟨x, hx, _, hcc⟩ := ((HA.out.more HO.out.below).more hW).1.2 (by omega)
        refine ⟨x, hx, ?_⟩
        have e : c = l[i]! := by
          have h9 : i < l.length := by rw [LA.out]; exact hia
          rw [← hc, List.getElem_append_left h9, getElem!_pos l i h9]
        rw [e]; exact hcc i hia)
      have CB : Hid (∀ W, Below wr.heap.size wr W → ¬ i < na → ∃ x, b = some x ∧ At4 W (x.add ((i - na) * 7)) c) := Lib.hid (fun W hW hia => by
        have hn := HS.out
        obtain ⟨x, hx, _, hcc⟩ := ((HB.out.more HO.out.below).more hW).1.2 (by omega)
        refine ⟨x, hx, ?_⟩
        have e : c = m[i - na]! := by
          have h8 : l.length = na := LA.out
          have h9 : i - na < m.length := by rw [LB.out]; omega
          rw [← hc, List.getElem_append_right (by omega), getElem!_pos m (i - na) h9]
          simp only [h8]
        rw [e]; exact hcc (i - na) (by omega))
      have HIS := Lib.hid (show ¬ i < na → i - na < nb from fun h => by have := HS.out; omega)
      clear hil HU hc
      obtain ⟨c0, c1, c2, c3, c4, c5, c6⟩ := c
      go_upto_if 22 with fail
      go_cut [7] from 23 to 33 (fun p wx => p = .pointer (some ⟨wr.heap.size, 0, none⟩) ∧ Hid (Bz wx wr.heap.size ⟨c0, c1, c2, c3, c4, c5, c6⟩) ∧ Hid (Below wr.heap.size wr wx))
      case first =>
        clear US UP HO HZ HQ
        have hB := Lib.hid (show Below wr.heap.size wr (wr.alloc (.cells #[.int .i64 0, .int .i64 0, .int .i64 0, .int .i64 0, .int .i64 0, .int .i64 0, .int .i64 0] 26)) from (Below.refl _ _).alloc (Nat.le_refl _) _)
        by_cases hia : i < na
        · have t0 : decide ((i : Int) < (na : Int)) = true := decide_eq_true (by omega)
          obtain ⟨x, hx, a0, a1, a2, a3, a4, a5, a6⟩ := CA.out _ hB.out hia
          simp only at a0 a1 a2 a3 a4 a5 a6
          subst hx
          have j0 : (0 : Int) ≤ (i : Int) := by omega
          have j1 : (i : Int) < (na : Int) := by omega
          clear CA CB HA HB HIS
          go_wp2_with fail
          go_meet
          exact ⟨rfl, Lib.hid (Bz.new wr ⟨c0, c1, c2, c3, c4, c5, c6⟩ 26), Lib.hid ((Below.refl _ _).alloc (Nat.le_refl _) _)⟩
        · have t0 : decide ((i : Int) < (na : Int)) = false := decide_eq_false (by omega)
          obtain ⟨x, hx, a0, a1, a2, a3, a4, a5, a6⟩ := CB.out _ hB.out hia
          simp only at a0 a1 a2 a3 a4 a5 a6
          subst hx
          obtain ⟨j, hj⟩ : ∃ j, j = i - na := ⟨_, rfl⟩
          rw [← hj] at a0 a1 a2 a3 a4 a5 a6
          have w4' : IntKind.i64.wrap ((i : Int) - (na : Int)) = (j : Int) := by rw [IntKind.wrap_i64]; omega
          have w5' : (i : Int) - (na : Int) = (j : Int) := by omega
          have j0 : (0 : Int) ≤ (j : Int) := by omega
          have j1 : (j : Int) < (nb : Int) := by have := HIS.out hia; omega
          clear CA CB HA HB HIS hj
          go_wp2_with fail
          go_meet
          exact ⟨rfl, Lib.hid (Bz.new wr ⟨c0, c1, c2, c3, c4, c5, c6⟩ 26), Lib.hid ((Below.refl _ _).alloc (Nat.le_refl _) _)⟩
      case rest =>
        obtain ⟨rfl, HX, hBw⟩ := hcut
        obtain ⟨A, cap, hv, hAf⟩ := HO.out.form
        subst hv
        have HO1 := Lib.hid (HO.out.more hBw.out)
        have hsw := HO.out.below.size
        have HNE : Hid ((Value.slice A out.length cap).ownBlock ≠ some wr.heap.size) := Lib.hid (fun e => by have := (HO.out.row.lt _ e).2; omega)
        clear hBw HO CA CB HIS
        generalize wr.heap.size = s at *
        have HAF := Lib.hid hAf
        clear hAf
        generalize hn : out.length = n at *
        have HN := Lib.hid hn
        clear hn
        have hcap1 : n + 1 ≤ maxLen := by unfold maxLen; omega
        have hcap2 : (n + 1) * 56 ≤ 140737488355328 := by omega
        go_wp2_with fail
        go_loopw [8] (fun z wy => ∃ p : Nat, p ≤ n ∧ z = .int .i64 p ∧ Hid (∀ t, p ≤ t → t < n → 0 < cmpE out[t]! ⟨c0, c1, c2, c3, c4, c5, c6⟩) ∧ Hid (OwnG w (.slice A n cap) out wy) ∧ Hid (Bz wy s ⟨c0, c1, c2, c3, c4, c5, c6⟩)) (fun z _ => (intOf z).toNat)
        case atStart => exact ⟨n, by omega, rfl, Lib.hid (fun t h1 h2 => by omega), HO1, HX⟩
        case round =>
          clear HO1 HX
          obtain ⟨p, hp, rfl, HLT, HOy, HXy⟩ := hrel
          by_cases hp0 : 0 < p
          · have hd1 : decide ((0 : Int) < (p : Int)) = true := decide_eq_true (by omega)
            obtain ⟨j, hj⟩ : ∃ j, j = p - 1 := ⟨_, rfl⟩
            have hD1 : IntKind.i64.wrap ((p : Int) - 1) = (j : Int) := by rw [IntKind.wrap_i64]; omega
            have hD2 : (p : Int) - 1 = (j : Int) := by omega
            have hD3 : IntKind.i64.wrap (j : Int) = (j : Int) := by rw [IntKind.wrap_i64]; omega
            have hD4 : (1 : Int) ≤ (p : Int) := by omega
            have hjn : j < n := by omega
            have j0 : (0 : Int) ≤ (j : Int) := by omega
            have j1 : (j : Int) < (n : Int) := by omega
            obtain ⟨g, hA2⟩ := HAF.out j hjn
            subst hA2
            have CE := Lib.hid (HOy.out.cells HN.out hjn).1
            have LS : Hid (0 < cmpE out[j]! ⟨c0, c1, c2, c3, c4, c5, c6⟩ → ∀ t, j ≤ t → t < n → 0 < cmpE out[t]! ⟨c0, c1, c2, c3, c4, c5, c6⟩) := Lib.hid fun h t h1 h2 => by
              by_cases e : t = j
              · subst e; exact h
              · exact HLT.out t (by omega) h2
            have US1 := Lib.hid (fun he => US.out j hjn he)
            have UP1 : Hid (cmpE out[j]! ⟨c0, c1, c2, c3, c4, c5, c6⟩ ≤ 0 → out[j]! ≠ ⟨c0, c1, c2, c3, c4, c5, c6⟩ → UnI cmpE (l ++ m) (i + 1) (ins out p ⟨c0, c1, c2, c3, c4, c5, c6⟩)) := Lib.hid fun h1 h2 => UP.out p hp HLT.out (fun _ => by rw [← hj]; exact h1) (fun _ => by rw [← hj]; exact h2)
            have CM := Lib.hid (fun W => rcmp_any out[j]! ⟨c0, c1, c2, c3, c4, c5, c6⟩ W)
            have hjp : j ≤ p := by omega
            clear hj
            generalize out[j]! = o at *
            obtain ⟨o0, o1, o2, o3, o4, o5, o6⟩ := o
            unfold CmpW vE at CM
            simp only at CM
            have DM : Hid (∀ P : GrBy wr, Calls Try.prog 35 #[.agg #[.int .i64 o0, .int .i64 o1, .int .i64 o2, .int .i64 o3, .int .i64 o4, .int .i64 o5, .int .i64 o6], .agg #[.int .i64 c0, .int .i64 c1, .int .i64 c2, .int .i64 c3, .int .i64 c4, .int .i64 c5, .int .i64 c6]] P.W fun r W' => r = .returned (.int .i64 (cmpE ⟨o0, o1, o2, o3, o4, o5, o6⟩ ⟨c0, c1, c2, c3, c4, c5, c6⟩)) ∧ ∃ p2 : GrBy wr, W' = p2.W) := Lib.hid fun P => (CM.out P.W).mono fun _ W' h => ⟨h.1, ⟨W', P.h.trans h.2⟩, rfl⟩
            clear CM
            have KQ : Hid (∀ P : GrBy wr, At4 P.W ⟨g, j * 7, none⟩ ⟨o0, o1, o2, o3, o4, o5, o6⟩) := Lib.hid fun P => CE.out.block (P.h.below.block _ CE.out.lt)
            have KZ : Hid (∀ P : GrBy wr, At4 P.W ⟨s, 0, none⟩ ⟨c0, c1, c2, c3, c4, c5, c6⟩) := Lib.hid fun P => HXy.out.bx.at4.block (P.h.below.block _ HXy.out.bx.lt)
            have q0 := fun P : GrBy wr => (KQ.out P).1
            have z0 := fun P : GrBy wr => (KZ.out P).1
            have q1 := fun P : GrBy wr => (KQ.out P).2.1
            have z1 := fun P : GrBy wr => (KZ.out P).2.1
            have q2 := fun P : GrBy wr => (KQ.out P).2.2.1
            have z2 := fun P : GrBy wr => (KZ.out P).2.2.1
            have q3 := fun P : GrBy wr => (KQ.out P).2.2.2.1
            have z3 := fun P : GrBy wr => (KZ.out P).2.2.2.1
            have q4 := fun P : GrBy wr => (KQ.out P).2.2.2.2.1
            have z4 := fun P : GrBy wr => (KZ.out P).2.2.2.2.1
            have q5 := fun P : GrBy wr => (KQ.out P).2.2.2.2.2.1
            have z5 := fun P : GrBy wr => (KZ.out P).2.2.2.2.2.1
            have q6 := fun P : GrBy wr => (KQ.out P).2.2.2.2.2.2
            have z6 := fun P : GrBy wr => (KZ.out P).2.2.2.2.2.2
            simp only at q0 q1 q2 q3 q4 q5 q6 z0 z1 z2 z3 z4 z5 z6
            generalize hR : cmpE ⟨o0, o1, o2, o3, o4, o5, o6⟩ ⟨c0, c1, c2, c3, c4, c5, c6⟩ = R at *
            have HR := Lib.hid hR
            clear hR KQ KZ
            by_cases hR : 0 < R
            · have tR : decide (0 < R) = true := decide_eq_true hR
              have LS2 := Lib.hid (LS.out hR)
              clear LS US1 UP1 hR
              go_wp2_with fail
              refine wp_region_quiet_gr (w0 := wr) mixed (by kernel_rfl) (Gr.refl _) ?_
              repeat (go_big_quiet_step ((go_at_call 35; (with_reducible exact DM.out _))))
              refine wpQuiet_nil ?_
              intro w8 hz8
              obtain ⟨⟨w8', g8⟩, hz9⟩ := hz8
              subst hz9
              have HO8 := Lib.hid (HOy.out.more g8.below)
              have HX8 := Lib.hid (HXy.out.below g8.below)
              have CE8 := Lib.hid (CE.out.block (g8.below.block _ CE.out.lt))
              clear q0 q1 q2 q3 q4 q5 q6 z0 z1 z2 z3 z4 z5 z6 DM HOy HXy CE g8
              go_wp2_with fail
              go_roundw
              case rel => exact ⟨j, by omega, by first | rfl | go_num, LS2, HO8, HX8⟩
              case measure => simp [intOf]; omega
            · have tR : decide (0 < R) = false := decide_eq_false hR
              have UP2 := Lib.hid (fun h => UP1.out (by omega) h)
              clear LS UP1 hR
              go_wp2_with fail
              refine wp_region_quiet_gr (w0 := wr) mixed (by kernel_rfl) (Gr.refl _) ?_
              repeat (go_big_quiet_step ((go_at_call 35; (with_reducible exact DM.out _))))
              refine wpQuiet_nil ?_
              intro w8 hz8
              obtain ⟨⟨w8', g8⟩, hz9⟩ := hz8
              subst hz9
              have HO8 := Lib.hid (HOy.out.more g8.below)
              have HX8 := Lib.hid (HXy.out.below g8.below)
              have CE8 := Lib.hid (CE.out.block (g8.below.block _ CE.out.lt))
              clear q0 q1 q2 q3 q4 q5 q6 z0 z1 z2 z3 z4 z5 z6 DM HOy HXy CE g8
              go_wp2_with fail
              have HEC : Hid (eqC ⟨o0, o1, o2, o3, o4, o5, o6⟩ ⟨c0, c1, c2, c3, c4, c5, c6⟩ = true ↔ (⟨o0, o1, o2, o3, o4, o5, o6⟩ : Ev) = ⟨c0, c1, c2, c3, c4, c5, c6⟩) := Lib.hid (by unfold eqC; exact decide_eq_true_iff)
              have KQ : Hid (∀ P : GrBy w8, At4 P.W ⟨g, j * 7, none⟩ ⟨o0, o1, o2, o3, o4, o5, o6⟩) := Lib.hid fun P => CE8.out.block (P.h.below.block _ CE8.out.lt)
              have KZ : Hid (∀ P : GrBy w8, At4 P.W ⟨s, 0, none⟩ ⟨c0, c1, c2, c3, c4, c5, c6⟩) := Lib.hid fun P => HX8.out.bx.at4.block (P.h.below.block _ HX8.out.bx.lt)
              have q0 := fun P : GrBy w8 => (KQ.out P).1
              have z0 := fun P : GrBy w8 => (KZ.out P).1
              have q1 := fun P : GrBy w8 => (KQ.out P).2.1
              have z1 := fun P : GrBy w8 => (KZ.out P).2.1
              have q2 := fun P : GrBy w8 => (KQ.out P).2.2.1
              have z2 := fun P : GrBy w8 => (KZ.out P).2.2.1
              have q3 := fun P : GrBy w8 => (KQ.out P).2.2.2.1
              have z3 := fun P : GrBy w8 => (KZ.out P).2.2.2.1
              have q4 := fun P : GrBy w8 => (KQ.out P).2.2.2.2.1
              have z4 := fun P : GrBy w8 => (KZ.out P).2.2.2.2.1
              have q5 := fun P : GrBy w8 => (KQ.out P).2.2.2.2.2.1
              have z5 := fun P : GrBy w8 => (KZ.out P).2.2.2.2.2.1
              have q6 := fun P : GrBy w8 => (KQ.out P).2.2.2.2.2.2
              have z6 := fun P : GrBy w8 => (KZ.out P).2.2.2.2.2.2
              have HE := fun W => eql_chg ⟨o0, o1, o2, o3, o4, o5, o6⟩ ⟨c0, c1, c2, c3, c4, c5, c6⟩ W
              have HG := fun op a b W => run_eqGuard_agg (P := Try.prog) W op 26 a b #[.int .i64 o0, .int .i64 o1, .int .i64 o2, .int .i64 o3, .int .i64 o4, .int .i64 o5, .int .i64 o6] #[.int .i64 c0, .int .i64 c1, .int .i64 c2, .int .i64 c3, .int .i64 c4, .int .i64 c5, .int .i64 c6] grd_chg
              simp only at q0 q1 q2 q3 q4 q5 q6 z0 z1 z2 z3 z4 z5 z6 HE
              generalize eqC ⟨o0, o1, o2, o3, o4, o5, o6⟩ ⟨c0, c1, c2, c3, c4, c5, c6⟩ = eb at HE HEC
              clear KQ KZ CE8
              cases eb
              · have UPP := Lib.hid (UP2.out (fun h => by have := HEC.out.2 h; cases this))
                clear UP2 US1 HEC
                refine wp_region_quiet_gr (w0 := w8) mixed (by kernel_rfl) (Gr.refl _) ?_
                repeat (go_big_quiet_step (fail))
                refine wpQuiet_nil ?_
                intro w9 hz9
                obtain ⟨⟨w9', g9⟩, hy9⟩ := hz9
                subst hy9
                have HOx := Lib.hid (HO8.out.more g9.below)
                have HXx := Lib.hid (HX8.out.below g9.below)
                clear q0 q1 q2 q3 q4 q5 q6 z0 z1 z2 z3 z4 z5 z6 HE HG HO8 HX8 g9
                obtain ⟨bs, HBs⟩ := HOx.out.base HN.out HZ.out HXx.out.bx.lt
                have HBS := Lib.hid HBs
                clear HBs
                have HRA : Hid (World.ownsRow (World.alloc w9 (.cells #[.int .i64 0, .int .i64 0, .int .i64 0, .int .i64 0, .int .i64 0, .int .i64 0, .int .i64 0] 26)) bs 26 7 (.slice (some ⟨g, 0, none⟩) n cap) n (fl out)) := Lib.hid (row_alloc HBS.out.1 (.cells #[.int .i64 0, .int .i64 0, .int .i64 0, .int .i64 0, .int .i64 0, .int .i64 0, .int .i64 0] 26))
                have HLC := Lib.hid (cells_row (cs := [(⟨0, 0, 0, 0, 0, 0, 0⟩ : Ev)]) (n := 1) rfl (x := ⟨(w9).heap.size, 0, none⟩) (w := World.alloc w9 (.cells #[.int .i64 0, .int .i64 0, .int .i64 0, .int .i64 0, .int .i64 0, .int .i64 0, .int .i64 0] 26)) (fun i hi => by obtain rfl : i = 0 := (by omega); exact (Bz.new w9 ⟨0, 0, 0, 0, 0, 0, 0⟩ 26).bx.at4))
                have HB1 : Hid (bs ≤ (World.alloc w9 (.cells #[.int .i64 0, .int .i64 0, .int .i64 0, .int .i64 0, .int .i64 0, .int .i64 0, .int .i64 0] 26)).heap.size) := Lib.hid (by have := HBS.out.2.2.1; simp; omega)
                go_wp2_with (at_builtin; refine wpList_append_opt _ rfl _ _ 44 rfl bs 26 i0 (.agg #[.int .i64 0, .int .i64 0, .int .i64 0, .int .i64 0, .int .i64 0, .int .i64 0, .int .i64 0]) 7 56 Try.underlying44 HQ.out.1 HQ.out.2.1 HQ.out.2.2.1 HQ.out.2.2.2 rfl (by decide) _ _ _ rfl HRA.out (some ⟨(w9).heap.size, 0, none⟩) 1 1 (fl [⟨0, 0, 0, 0, 0, 0, 0⟩]) rfl rfl (fun h => by cases h) (fun ad had => by injection had with had; subst had; exact HLC.out) (fl_one _) hcap1 hcap2 HB1.out ?_)
                intro v2 W4 o2 g2 _
                have HD := Lib.hid (app_done (z := ⟨0, 0, 0, 0, 0, 0, 0⟩) (HOx.out.more ((Below.refl _ _).alloc (Nat.le_refl _) (.cells #[.int .i64 0, .int .i64 0, .int .i64 0, .int .i64 0, .int .i64 0, .int .i64 0, .int .i64 0] 26))) HN.out HBS.out.2.1 HBS.out.2.2.2 (HXx.out.keep (Below.heap_alloc _ _ _ HXx.out.bx.lt)) HNE.out o2 g2)
                clear o2 g2 HRA HLC HB1 HBS
                obtain ⟨G4, X4, A4, g4, cap4, hv4, hA4, hc4, hm4, hne4, hb4⟩ := HD.out
                clear HD
                subst hv4
                have HA4 := Lib.hid hA4
                have HG4 := Lib.hid (G4.more (Below.drew (Below.refl _ _)))
                have HX4 := Lib.hid (X4.keep (W' := W4.drew) rfl)
                have hm4' : cap4 ≤ 9223372036854775807 := by unfold maxLen at hm4; omega
                have hwr : IntKind.i64.wrap ((p : Int) + 1) = (p : Int) + 1 := by rw [IntKind.wrap_i64]; omega
                have hp0 : (0 : Int) ≤ (p : Int) + 1 := by omega
                have hp1 : (p : Int) + 1 ≤ (n : Int) + 1 := by omega
                have hp2 : ((p : Int) + 1).toNat = p + 1 := by omega
                have hp3 : (p : Int) ≤ (n : Int) + 1 := by omega
                have hp4 : (0 : Int) ≤ (p : Int) := by omega
                have hp5 : (p : Int) < (n : Int) + 1 := by omega
                have hif1 : (if cap4 = p + 1 then A4 else Option.map (fun x => x.add ((p + 1) * 7)) A4) = from' A4 cap4 (p + 1) := rfl
                have hif2 : (if cap4 = p then A4 else Option.map (fun x => x.add (p * 7)) A4) = from' A4 cap4 p := rfl
                have HSUB := Lib.hid (show n + 1 - (p + 1) = n - p by omega)
                clear hA4 hm4 G4 X4
                go_wp2_with fail
                go_region_held3 (fun w' => True) (trivial)
                  (first
                    | (refine step_room_a rfl _ _ _ _ rfl 26 Try.underlying44 infoS4 w A4 g4 HA4.out n cap4 p out ⟨0, 0, 0, 0, 0, 0, 0⟩ HG4.out HN.out hp (n - p) _ (n + 1 - p) _ rfl rfl rfl rfl ?_; intro w5 hG5 hO5)
                    | (refine step_room_a rfl _ _ _ _ rfl 26 Try.underlying44 infoS4 w A4 g4 HA4.out n cap4 p out ⟨0, 0, 0, 0, 0, 0, 0⟩ HG4.out HN.out hp (n + 1 - (p + 1)) _ (n + 1 - p) _ rfl rfl HSUB.out rfl ?_; intro w5 hG5 hO5))
                have HG5 := Lib.hid hG5
                have HX5 := Lib.hid (HX4.out.keep (hO5.block s HX4.out.bx.lt (fun e => hne4 e.symm)))
                have HL5 := Lib.hid ((room_len out ⟨0, 0, 0, 0, 0, 0, 0⟩ p (by have := HN.out; omega)).trans (congrArg (· + 1) HN.out))
                have hA4 := HA4.out
                clear hG5 hO5 HA4 HG4 HX4 hif1 hif2 hwr
                subst hA4
                obtain ⟨⟨q0, q1, q2, q3, q4, q5, q6⟩, hfz⟩ := HG5.out.cells (p := p) HL5.out (by omega)
                have r0 := hfz (p * 7)
                have r1 := hfz (p * 7 + 1)
                have r2 := hfz (p * 7 + 2)
                have r3 := hfz (p * 7 + 3)
                have r4 := hfz (p * 7 + 4)
                have r5 := hfz (p * 7 + 5)
                have r6 := hfz (p * 7 + 6)
                obtain ⟨z0, z1, z2, z3, z4, z5, z6⟩ := HX5.out.bx.at4
                simp only at q0 q1 q2 q3 q4 q5 q6 z0 z1 z2 z3 z4 z5 z6
                clear hfz
                generalize (room out ⟨0, 0, 0, 0, 0, 0, 0⟩ p)[p]! = oc at q0 q1 q2 q3 q4 q5 q6
                go_wp2_with fail
                go_roundw
                case rel => exact ⟨i + 1, ins out p ⟨c0, c1, c2, c3, c4, c5, c6⟩, by omega, by go_num, Lib.hid (HG5.out.put HN.out hp ⟨c0, c1, c2, c3, c4, c5, c6⟩), UPP, Lib.hid (fun h => absurd h (ins_ne _ _ _))⟩
                case measure => simp [intOf]; omega
              · have UPP := Lib.hid (US1.out (HEC.out.1 rfl))
                clear UP2 US1 HEC
                refine wp_region_quiet_gr (w0 := w8) mixed (by kernel_rfl) (Gr.refl _) ?_
                repeat (go_big_quiet_step (fail))
                refine wpQuiet_nil ?_
                intro w9 hz9
                obtain ⟨⟨w9', g9⟩, hy9⟩ := hz9
                subst hy9
                have HOx := Lib.hid (HO8.out.more g9.below)
                have HXx := Lib.hid (HX8.out.below g9.below)
                clear q0 q1 q2 q3 q4 q5 q6 z0 z1 z2 z3 z4 z5 z6 HE HG HO8 HX8 g9
                go_wp2_with fail
                go_roundw
                case rel => exact ⟨i + 1, out, by omega, by go_num, HOx, UPP, HZ⟩
                case measure => simp [intOf]; omega
          · have hd1 : decide ((0 : Int) < (p : Int)) = false := decide_eq_false (by omega)
            have UPP := Lib.hid (UP.out p hp HLT.out (fun h => absurd h hp0) (fun h => absurd h hp0))
            clear UP US HLT
            go_wp2_with fail
            refine wp_region_quiet_gr (w0 := wr) mixed (by kernel_rfl) (Gr.refl _) ?_
            repeat (go_big_quiet_step (fail))
            refine wpQuiet_nil ?_
            intro w8 hz8
            obtain ⟨⟨w8', g8⟩, hz9⟩ := hz8
            subst hz9
            have HO8 := Lib.hid (HOy.out.more g8.below)
            have HX8 := Lib.hid (HXy.out.below g8.below)
            clear HOy HXy g8
            go_wp2_with fail
            refine wp_region_quiet_gr (w0 := w8) mixed (by kernel_rfl) (Gr.refl _) ?_
            repeat (go_big_quiet_step (fail))
            refine wpQuiet_nil ?_
            intro w9 hz9
            obtain ⟨⟨w9', g9⟩, hy9⟩ := hz9
            subst hy9
            have HOx := Lib.hid (HO8.out.more g9.below)
            have HXx := Lib.hid (HX8.out.below g9.below)
            clear HO8 HX8 g9
            obtain ⟨bs, HBs⟩ := HOx.out.base HN.out HZ.out HXx.out.bx.lt
            have HBS := Lib.hid HBs
            clear HBs
            have HRA : Hid (World.ownsRow (World.alloc w9 (.cells #[.int .i64 0, .int .i64 0, .int .i64 0, .int .i64 0, .int .i64 0, .int .i64 0, .int .i64 0] 26)) bs 26 7 (.slice A n cap) n (fl out)) := Lib.hid (row_alloc HBS.out.1 (.cells #[.int .i64 0, .int .i64 0, .int .i64 0, .int .i64 0, .int .i64 0, .int .i64 0, .int .i64 0] 26))
            have HLC := Lib.hid (cells_row (cs := [(⟨0, 0, 0, 0, 0, 0, 0⟩ : Ev)]) (n := 1) rfl (x := ⟨(w9).heap.size, 0, none⟩) (w := World.alloc w9 (.cells #[.int .i64 0, .int .i64 0, .int .i64 0, .int .i64 0, .int .i64 0, .int .i64 0, .int .i64 0] 26)) (fun i hi => by obtain rfl : i = 0 := (by omega); exact (Bz.new w9 ⟨0, 0, 0, 0, 0, 0, 0⟩ 26).bx.at4))
            have HB1 : Hid (bs ≤ (World.alloc w9 (.cells #[.int .i64 0, .int .i64 0, .int .i64 0, .int .i64 0, .int .i64 0, .int .i64 0, .int .i64 0] 26)).heap.size) := Lib.hid (by have := HBS.out.2.2.1; simp; omega)
            go_wp2_with (at_builtin; refine wpList_append_opt _ rfl _ _ 44 rfl bs 26 i0 (.agg #[.int .i64 0, .int .i64 0, .int .i64 0, .int .i64 0, .int .i64 0, .int .i64 0, .int .i64 0]) 7 56 Try.underlying44 HQ.out.1 HQ.out.2.1 HQ.out.2.2.1 HQ.out.2.2.2 rfl (by decide) _ _ _ rfl HRA.out (some ⟨(w9).heap.size, 0, none⟩) 1 1 (fl [⟨0, 0, 0, 0, 0, 0, 0⟩]) rfl rfl (fun h => by cases h) (fun ad had => by injection had with had; subst had; exact HLC.out) (fl_one _) hcap1 hcap2 HB1.out ?_)
            intro v2 W4 o2 g2 _
            have HD := Lib.hid (app_done (z := ⟨0, 0, 0, 0, 0, 0, 0⟩) (HOx.out.more ((Below.refl _ _).alloc (Nat.le_refl _) (.cells #[.int .i64 0, .int .i64 0, .int .i64 0, .int .i64 0, .int .i64 0, .int .i64 0, .int .i64 0] 26))) HN.out HBS.out.2.1 HBS.out.2.2.2 (HXx.out.keep (Below.heap_alloc _ _ _ HXx.out.bx.lt)) HNE.out o2 g2)
            clear o2 g2 HRA HLC HB1 HBS
            obtain ⟨G4, X4, A4, g4, cap4, hv4, hA4, hc4, hm4, hne4, hb4⟩ := HD.out
            clear HD
            subst hv4
            have HA4 := Lib.hid hA4
            have HG4 := Lib.hid (G4.more (Below.drew (Below.refl _ _)))
            have HX4 := Lib.hid (X4.keep (W' := W4.drew) rfl)
            have hm4' : cap4 ≤ 9223372036854775807 := by unfold maxLen at hm4; omega
            have hwr : IntKind.i64.wrap ((p : Int) + 1) = (p : Int) + 1 := by rw [IntKind.wrap_i64]; omega
            have hp0 : (0 : Int) ≤ (p : Int) + 1 := by omega
            have hp1 : (p : Int) + 1 ≤ (n : Int) + 1 := by omega
            have hp2 : ((p : Int) + 1).toNat = p + 1 := by omega
            have hp3 : (p : Int) ≤ (n : Int) + 1 := by omega
            have hp4 : (0 : Int) ≤ (p : Int) := by omega
            have hp5 : (p : Int) < (n : Int) + 1 := by omega
            have hif1 : (if cap4 = p + 1 then A4 else Option.map (fun x => x.add ((p + 1) * 7)) A4) = from' A4 cap4 (p + 1) := rfl
            have hif2 : (if cap4 = p then A4 else Option.map (fun x => x.add (p * 7)) A4) = from' A4 cap4 p := rfl
            have HSUB := Lib.hid (show n + 1 - (p + 1) = n - p by omega)
            clear hA4 hm4 G4 X4
            go_wp2_with fail
            go_region_held3 (fun w' => True) (trivial)
              (first
                | (refine step_room_a rfl _ _ _ _ rfl 26 Try.underlying44 infoS4 w A4 g4 HA4.out n cap4 p out ⟨0, 0, 0, 0, 0, 0, 0⟩ HG4.out HN.out hp (n - p) _ (n + 1 - p) _ rfl rfl rfl rfl ?_; intro w5 hG5 hO5)
                | (refine step_room_a rfl _ _ _ _ rfl 26 Try.underlying44 infoS4 w A4 g4 HA4.out n cap4 p out ⟨0, 0, 0, 0, 0, 0, 0⟩ HG4.out HN.out hp (n + 1 - (p + 1)) _ (n + 1 - p) _ rfl rfl HSUB.out rfl ?_; intro w5 hG5 hO5))
            have HG5 := Lib.hid hG5
            have HX5 := Lib.hid (HX4.out.keep (hO5.block s HX4.out.bx.lt (fun e => hne4 e.symm)))
            have HL5 := Lib.hid ((room_len out ⟨0, 0, 0, 0, 0, 0, 0⟩ p (by have := HN.out; omega)).trans (congrArg (· + 1) HN.out))
            have hA4 := HA4.out
            clear hG5 hO5 HA4 HG4 HX4 hif1 hif2 hwr
            subst hA4
            obtain ⟨⟨q0, q1, q2, q3, q4, q5, q6⟩, hfz⟩ := HG5.out.cells (p := p) HL5.out (by omega)
            have r0 := hfz (p * 7)
            have r1 := hfz (p * 7 + 1)
            have r2 := hfz (p * 7 + 2)
            have r3 := hfz (p * 7 + 3)
            have r4 := hfz (p * 7 + 4)
            have r5 := hfz (p * 7 + 5)
            have r6 := hfz (p * 7 + 6)
            obtain ⟨z0, z1, z2, z3, z4, z5, z6⟩ := HX5.out.bx.at4
            simp only at q0 q1 q2 q3 q4 q5 q6 z0 z1 z2 z3 z4 z5 z6
            clear hfz
            generalize (room out ⟨0, 0, 0, 0, 0, 0, 0⟩ p)[p]! = oc at q0 q1 q2 q3 q4 q5 q6
            go_wp2_with fail
            go_roundw
            case rel => exact ⟨i + 1, ins out p ⟨c0, c1, c2, c3, c4, c5, c6⟩, by omega, by go_num, Lib.hid (HG5.out.put HN.out hp ⟨c0, c1, c2, c3, c4, c5, c6⟩), UPP, Lib.hid (fun h => absurd h (ins_ne _ _ _))⟩
            case measure => simp [intOf]; omega
    · have hd0 : decide ((i : Int) < (S : Int)) = false := decide_eq_false (by omega)
      have EU : Hid (out = setL cmpE (l ++ m)) := Lib.hid (UnI.done totE (by have h3 := HU.out; rwa [show i = (l ++ m).length by have := LEN.out; omega] at h3))
      have HOD := Lib.hid HO.out
      clear HU HO HZ
      go_wp2_with fail
      go_ret
      rw [← EU.out]
      exact OwnE.done (HOD.out.1 |> fun h => ⟨h, HOD.out.2⟩)
end Go.Proofs.Ytebdldinlodgpaa.Ib
