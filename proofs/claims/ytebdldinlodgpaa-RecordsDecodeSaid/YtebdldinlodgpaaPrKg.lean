/-
  Layer 7 (records): the contract of the reference's Decode: the events, the gaps and the number of the bytes that are read. Condition: the row reads as bytes, at most a million.
-/
import Derived.Test.YtebdldinlodgpaaPrJp
import Derived.Test.YtebdldinlodgpaaPrJn
namespace Go.Proofs.Ytebdldinlodgpaa.Rc
open Go Go.RowKit Go.Lib Go.Sort Go.Shelf Go.Proofs Go.Proofs.Ytebdldinlodgpaa Go.Proofs.Ytebdldinlodgpaa.Tp
set_option linter.unusedVariables false
set_option maxRecDepth 100000 in
set_option maxHeartbeats 4000000 in
theorem rdecode_any (a : Option Addr) (n cap : Nat) (bs : List Nat) (hn : n ≤ 1000000) (hcap : n ≤ cap) (w : World) (h : BRow w a n bs) :
    Calls Try.prog 53 #[.slice a n cap] w (DcR bs w) := by
  have H := Lib.hid h
  have HL : Hid (bs.length = n) := Lib.hid h.1
  have HT : Hid (∀ T, T = dec bs → go bs (n + 1) 0 [] [] = T) := Lib.hid fun T hT => by rw [hT]; unfold dec; rw [h.1]
  obtain ⟨i0, hi0, hz0, hz1, hz2⟩ := infoEv
  have HQ := Lib.hid (And.intro hi0 (And.intro hz0 (And.intro hz1 hz2)))
  obtain ⟨j0, hj0, hy0, hy1, hy2⟩ := infoGp
  have HP := Lib.hid (And.intro hj0 (And.intro hy0 (And.intro hy1 hy2)))
  clear h hi0 hz0 hz1 hz2 hj0 hy0 hy1 hy2
  unfold DcR
  have HT := Lib.hid (HT.out _ rfl)
  generalize dec bs = T at *
  go_enter Try.func53, Try.ntmps53
  go_wp2_with fail
  go_loopw [5, 6, 7] (fun ev gv z wr => ∃ (k f : Nat) (es : List Ev) (gs : List (Nat × Nat)), z = .int .i64 k ∧ k ≤ n ∧ Hid (n + 1 ≤ k + f) ∧ Hid (es.length ≤ k) ∧ Hid (gs.length ≤ k) ∧ Hid (DecI w ev gv es gs wr) ∧ Hid (go bs f k es gs = T)) (fun _ _ z _ => n - (intOf z).toNat)
  case atStart => exact ⟨0, n + 1, [], [], rfl, by omega, Lib.hid (by omega), Lib.hid (by simp), Lib.hid (by simp), Lib.hid ⟨OwnL.nil _ _ _ _, OwnL.nil _ _ _ _, fun _ h => by cases h⟩, HT⟩
  case round =>
    clear HT
    obtain ⟨k, f, es, gs, rfl, hk, HF, HLe, HLg, HI, HG⟩ := hrel
    by_cases hlt : k + 24 ≤ n
    · have t0 : decide ((k : Int) + 24 ≤ (n : Int)) = true := decide_eq_true (by omega)
      obtain ⟨x, hx0, hx⟩ := H.out.2.2 (by omega)
      clear hx
      subst hx0
      have E : Hid (Calls Try.prog 73 #[.slice (some (x.add k)) 24 (cap - k)] wr (RdR (sl bs k (k + 24)) wr)) := Lib.hid (by
        have hr := ((H.out.more ((OwnL.below HI.out.e).mono (Nat.le_refl _))).sub k (k + 24) (by omega) (by omega))
        rw [show k + 24 - k = 24 by omega] at hr
        exact read_any (x.add k) (cap - k) _ (by omega) wr hr)
      unfold RdR at E
      obtain ⟨f, rfl⟩ : ∃ f', f = f' + 1 := ⟨f - 1, by have := HF.out; omega⟩
      have q1 : (0 : Int) ≤ (k : Int) := by omega
      have q2 : (k : Int) ≤ (k : Int) + 24 := by omega
      have q3 : (k : Int) + 24 ≤ (cap : Int) := by omega
      have q4 : ¬ cap = k := by omega
      have HN := Lib.hid hn
      cases hrd : rd (sl bs k (k + 24)) with
      | some e =>
        rw [hrd, (rd_some hrd).2.2.1] at E
        have HG2 : Hid (go bs f (k + 24) (es ++ [e]) gs = T) := Lib.hid (by rw [← HG.out, go_some (by have := HL.out; omega) hrd])
        clear hrd HG
        obtain ⟨kt, ks, em, ti, ki, tt, ts⟩ := e
        go_wp2_with fail
        refine E.out.mono ?_
        rintro r w2 ⟨rfl, b2⟩
        have I2 := Lib.hid (HI.out.more b2)
        clear b2 E HI
        unfold vE
        simp only [Option.isSome]
        have X3 : Hid (BxE (w2.alloc (.cells #[.int .i64 kt, .int .i64 ks, .int .i64 em, .int .i64 ti, .int .i64 ki, .int .i64 tt, .int .i64 ts] 26)) w2.heap.size ⟨kt, ks, em, ti, ki, tt, ts⟩) := Lib.hid (BxE.new w2 ⟨kt, ks, em, ti, ki, tt, ts⟩ _)
        have I3 := Lib.hid (I2.out.alloc (.cells #[.int .i64 kt, .int .i64 ks, .int .i64 em, .int .i64 ti, .int .i64 ki, .int .i64 tt, .int .i64 ts] 26))
        clear I2
        go_upto_region 7 with fail
        generalize w2.alloc (.cells #[.int .i64 kt, .int .i64 ks, .int .i64 em, .int .i64 ti, .int .i64 ki, .int .i64 tt, .int .i64 ts] 26) = wA at *
        obtain ⟨x0, x1, x2, x3, x4, x5, x6⟩ := X3.out.at7
        simp only at x0 x1 x2 x3 x4 x5 x6
        have I4 := Lib.hid (I3.out.alloc (.cells #[.int .i64 kt, .int .i64 ks, .int .i64 em, .int .i64 ti, .int .i64 ki, .int .i64 tt, .int .i64 ts] 26))
        clear I3 X3
        have le1 := HLe.out
        go_wp2_with (at_builtin; refine wpList_append_own_at _ rfl _ _ 44 rfl w.heap.size 26 i0 (.agg #[.int .i64 0, .int .i64 0, .int .i64 0, .int .i64 0, .int .i64 0, .int .i64 0, .int .i64 0]) 7 56 Try.underlying44 HQ.out.1 HQ.out.2.1 HQ.out.2.2.1 HQ.out.2.2.2 rfl (by decide) _ _ _ rfl (OwnL.row I4.out.e) ⟨wA.heap.size, 0, none⟩ 1 1 [.int .i64 kt, .int .i64 ks, .int .i64 em, .int .i64 ti, .int .i64 ki, .int .i64 tt, .int .i64 ts] rfl rfl (seven_new _ _ _ _ _ _ _ _ _) ?m2 ?m3 ?m4 (OwnL.below I4.out.e).size ?_)
        case m2 => intro x hx; simp at hx; rcases hx with rfl | rfl | rfl | rfl | rfl | rfl | rfl <;> rfl
        case m3 => unfold maxLen; omega
        case m4 => omega
        intro v5 w5 hown hgrow _ hat
        have I5 := Lib.hid (I4.out.pushE (v2 := v5) ⟨kt, ks, em, ti, ki, tt, ts⟩ hown hgrow hat (by simp))
        clear hown hgrow hat I4 x0 x1 x2 x3 x4 x5 x6
        go_wp2_with fail
        go_roundw
        case rel => exact ⟨k + 24, f, _, gs, by go_num, by omega, Lib.hid (by have := HF.out; omega), Lib.hid (by simp; omega), Lib.hid (by have := HLg.out; omega), I5, HG2⟩
        case measure => simp [intOf]; omega
      | none =>
        rw [hrd] at E
        generalize evOf (sl bs k (k + 24)) = ee at E
        obtain ⟨y0, y1, y2, y3, y4, y5, y6⟩ := ee
        have HG2 : Hid (go bs f (k + 1) es (addG gs k) = T) := Lib.hid (by rw [← HG.out, go_none (by have := HL.out; omega) hrd])
        clear hrd HG
        go_wp2_with fail
        refine E.out.mono ?_
        rintro r w2 ⟨rfl, b2⟩
        have I2 := Lib.hid (HI.out.more b2)
        clear b2 E HI
        unfold vE
        simp only [Option.isSome]
        have I3 := Lib.hid (I2.out.alloc (.cells #[.int .i64 y0, .int .i64 y1, .int .i64 y2, .int .i64 y3, .int .i64 y4, .int .i64 y5, .int .i64 y6] 26))
        clear I2
        have le1 := HLg.out
        rcases I3.out.gform with ⟨A, C, rfl, rfl⟩ | ⟨g, gcap, gs', ga, gb, rfl, rfl, hgc⟩
        · rw [addG_nil] at HG2
          go_upto_region 12 with fail
          generalize w2.alloc (.cells #[.int .i64 y0, .int .i64 y1, .int .i64 y2, .int .i64 y3, .int .i64 y4, .int .i64 y5, .int .i64 y6] 26) = wA at *
          have I4 := Lib.hid (I3.out.alloc (.cells #[.int .i64 (k : Int), .int .i64 ((k : Int) + 1)] 55))
          clear I3
          go_wp2_with (at_builtin; refine wpList_append_own_at _ rfl _ _ 46 rfl w.heap.size 55 j0 (.agg #[.int .i64 0, .int .i64 0]) 2 16 Try.underlying46 HP.out.1 HP.out.2.1 HP.out.2.2.1 HP.out.2.2.2 rfl (by decide) _ _ _ rfl (OwnL.row I4.out.g) ⟨wA.heap.size, 0, none⟩ 1 1 [.int .i64 (k : Int), .int .i64 ((k : Int) + 1)] rfl rfl (pair_new _ _ _ _) ?p2 ?p3 ?p4 (OwnL.below I4.out.g).size ?_)
          case p2 => intro x hx; simp at hx; rcases hx with rfl | rfl <;> rfl
          case p3 => simp [maxLen]
          case p4 => simp
          intro v5 w5 hown hgrow _ hat
          have I5 := Lib.hid (I4.out.pushG (v2 := v5) (k, k + 1) hown hgrow hat (by simp))
          clear hown hgrow hat I4
          go_wp2_with fail
          go_roundw
          case rel => exact ⟨k + 1, f, _, _, by go_num, by omega, Lib.hid (by have := HF.out; omega), Lib.hid (by have := HLe.out; omega), Lib.hid (by simp), I5, HG2⟩
          case measure => simp [intOf]; omega
        · rw [addG_last] at HG2
          obtain ⟨lc, lf, lput⟩ := I3.out.last rfl
          have LP := Lib.hid lput
          have hgl : gs'.length + 1 ≤ 1000000 := by simp at le1; omega
          have HGL := Lib.hid (show (gs' ++ [(ga, gb)]).length = gs'.length + 1 by simp)
          clear lput
          by_cases hb : gb = k
          · subst hb
            rw [if_pos rfl] at HG2
            generalize gs'.length = G at *
            have I5 : Hid (DecI w u5 (.slice (some ⟨g, 0, none⟩) (G + 1) gcap) es (gs' ++ [(ga, gb + 1)]) ((w2.alloc (.cells #[.int .i64 y0, .int .i64 y1, .int .i64 y2, .int .i64 y3, .int .i64 y4, .int .i64 y5, .int .i64 y6] 26)).setCell ⟨g, G * 2 + 1, none⟩ (.int .i64 ((gb : Int) + 1)))) := Lib.hid (LP.out (gb + 1))
            have HL2 := Lib.hid (show (gs' ++ [(ga, gb + 1)]).length = (gs' ++ [(ga, gb)]).length by simp)
            go_wp2_with fail
            go_roundw
            case rel => exact ⟨gb + 1, f, es, gs' ++ [(ga, gb + 1)], by go_num, by omega, Lib.hid (by have := HF.out; omega), Lib.hid (by have := HLe.out; omega), Lib.hid (by rw [HL2.out]; omega), I5, HG2⟩
            case measure => simp [intOf]; omega
          · rw [if_neg hb] at HG2
            have tb : ((gb : Int) == (k : Int)) = false := by simp; omega
            generalize gs'.length = G at *
            have le2 : G + 1 ≤ k := by rw [HGL.out] at le1; exact le1
            go_upto_region 12 with fail
            generalize w2.alloc (.cells #[.int .i64 y0, .int .i64 y1, .int .i64 y2, .int .i64 y3, .int .i64 y4, .int .i64 y5, .int .i64 y6] 26) = wA at *
            have I4 := Lib.hid (I3.out.alloc (.cells #[.int .i64 (k : Int), .int .i64 ((k : Int) + 1)] 55))
            clear I3
            go_wp2_with (at_builtin; refine wpList_append_own_at _ rfl _ _ 46 rfl w.heap.size 55 j0 (.agg #[.int .i64 0, .int .i64 0]) 2 16 Try.underlying46 HP.out.1 HP.out.2.1 HP.out.2.2.1 HP.out.2.2.2 rfl (by decide) _ _ _ rfl (OwnL.row I4.out.g) ⟨wA.heap.size, 0, none⟩ 1 1 [.int .i64 (k : Int), .int .i64 ((k : Int) + 1)] rfl rfl (pair_new _ _ _ _) ?r2 ?r3 ?r4 (OwnL.below I4.out.g).size ?_)
            case r2 => intro x hx; simp at hx; rcases hx with rfl | rfl <;> rfl
            case r3 => unfold maxLen; rw [HGL.out]; omega
            case r4 => rw [HGL.out]; omega
            intro v5 w5 hown hgrow _ hat
            have I5 := Lib.hid (I4.out.pushG (v2 := v5) (k, k + 1) (by simpa [eG] using hown) hgrow hat (by simp))
            clear hown hgrow hat I4
            go_wp2_with fail
            go_roundw
            case rel => exact ⟨k + 1, f, _, _, by go_num, by omega, Lib.hid (by have := HF.out; omega), Lib.hid (by have := HLe.out; omega), Lib.hid (by rw [List.length_append, HGL.out]; simp; omega), I5, HG2⟩
            case measure => simp [intOf]; omega
    · have t0 : decide ((k : Int) + 24 ≤ (n : Int)) = false := decide_eq_false (by omega)
      have HE : Hid (T = (es, gs, k)) := Lib.hid (by rw [← HG.out, go_end (by have := HL.out; omega)])
      clear HG
      go_wp2_with fail
      exact bodyPost_ret (v := .tuple #[u5, u6, .int .i64 (k : Int)]) (by simp [results, Try.results53, go_sem]) rfl ⟨_, _, by rw [HE.out], by rw [HE.out]; exact HI.out⟩
end Go.Proofs.Ytebdldinlodgpaa.Rc
