/-
  Layer 7 (records): the contract of Decode of the program: the events, the gaps and the number of the bytes that are read. Condition: the row reads as bytes, at most a million.
-/
import Derived.Test.YtebdldinlodgpaaPrJi
import Derived.Test.YtebdldinlodgpaaPrJe
import Derived.Laws.OwnMore
import Derived.OwnWalk
namespace Go.Proofs.Ytebdldinlodgpaa.Rc
open Go Go.RowKit Go.Lib Go.Sort Go.Shelf Go.Proofs Go.Proofs.Ytebdldinlodgpaa Go.Proofs.Ytebdldinlodgpaa.Tp
set_option linter.unusedVariables false

def eE (e : Ev) : List Value := [.int .i64 e.kt, .int .i64 e.ks, .int .i64 e.em, .int .i64 e.ti, .int .i64 e.ki, .int .i64 e.tt, .int .i64 e.ts]
def eG (g : Nat × Nat) : List Value := [.int .i64 (g.1 : Int), .int .i64 (g.2 : Int)]
def OwnE (w0 : World) (v : Value) (l : List Ev) (W : World) : Prop := OwnL 26 7 eE w0 v l W
def OwnG (w0 : World) (v : Value) (l : List (Nat × Nat)) (W : World) : Prop := OwnL 55 2 eG w0 v l W
theorem infoEv : ∃ i0 : TypeInfo, Try.prog.info? 26 = some i0 ∧ i0.zero = some (.agg #[.int .i64 0, .int .i64 0, .int .i64 0, .int .i64 0, .int .i64 0, .int .i64 0, .int .i64 0]) ∧ i0.size = 7 ∧ i0.bytes = 56 := by
  have h : (Try.prog.info? 26).map (fun i => (i.zero, i.size, i.bytes)) = some (some (.agg #[.int .i64 0, .int .i64 0, .int .i64 0, .int .i64 0, .int .i64 0, .int .i64 0, .int .i64 0]), 7, 56) := by kernel_rfl
  obtain ⟨i0, hi, hz0, hz1, hz2⟩ := info_parts h
  exact ⟨i0, hi, hz0, hz1, hz2⟩
theorem infoGp : ∃ i0 : TypeInfo, Try.prog.info? 55 = some i0 ∧ i0.zero = some (.agg #[.int .i64 0, .int .i64 0]) ∧ i0.size = 2 ∧ i0.bytes = 16 := by
  have h : (Try.prog.info? 55).map (fun i => (i.zero, i.size, i.bytes)) = some (some (.agg #[.int .i64 0, .int .i64 0]), 2, 16) := by kernel_rfl
  obtain ⟨i0, hi, hz0, hz1, hz2⟩ := info_parts h
  exact ⟨i0, hi, hz0, hz1, hz2⟩
/-- The two lists of Decode while they grow. -/
structure DecI (w : World) (ev gv : Value) (es : List Ev) (gs : List (Nat × Nat)) (W : World) : Prop where
  e : OwnE w ev es W
  g : OwnG w gv gs W
  ne : ∀ k, ev.ownBlock = some k → gv.ownBlock ≠ some k
section
variable {w W W' : World} {ev gv v2 : Value} {es : List Ev} {gs : List (Nat × Nat)}
theorem DecI.more (h : DecI w ev gv es gs W) (hb : Below W.heap.size W W') : DecI w ev gv es gs W' := ⟨OwnL.more h.e hb, OwnL.more h.g hb, h.ne⟩
theorem DecI.alloc (h : DecI w ev gv es gs W) (o : Obj) : DecI w ev gv es gs (W.alloc o) := h.more ((Below.refl _ _).alloc (Nat.le_refl _) o)
theorem DecI.pushE (h : DecI w ev gv es gs W) (e : Ev) (ho : W'.ownsRow w.heap.size 26 7 v2 (es.length + 1) (es.flatMap eE ++ eE e)) (hg : W.grownBy W' ev.ownBlock) {H : Nat} (hat : v2.ownBlock = ev.ownBlock ∨ v2.ownBlock = some H) (hH : W.heap.size ≤ H) : DecI w v2 gv (es ++ [e]) gs W' := by
  have hb := OwnL.below (OwnL.grown (m := [e]) h.e (by simpa using ho) hg)
  refine ⟨OwnL.grown (m := [e]) h.e (by simpa using ho) hg, OwnL.other h.g hb fun g hg' => hg.block g (OwnL.row h.g |>.lt g hg').2 (fun e => h.ne g e.symm hg'), fun k hk hk2 => ?_⟩
  rcases hat with h1 | h1
  · rw [h1] at hk; exact h.ne k hk hk2
  · rw [h1] at hk; injection hk with hk; subst hk
    have := (OwnL.row h.g |>.lt _ hk2).2; omega
theorem DecI.pushG (h : DecI w ev gv es gs W) (q : Nat × Nat) (ho : W'.ownsRow w.heap.size 55 2 v2 (gs.length + 1) (gs.flatMap eG ++ eG q)) (hg : W.grownBy W' gv.ownBlock) {H : Nat} (hat : v2.ownBlock = gv.ownBlock ∨ v2.ownBlock = some H) (hH : W.heap.size ≤ H) : DecI w ev v2 es (gs ++ [q]) W' := by
  have hb := OwnL.below (OwnL.grown (m := [q]) h.g (by simpa using ho) hg)
  refine ⟨OwnL.other h.e hb fun g hg' => hg.block g (OwnL.row h.e |>.lt g hg').2 (fun e => h.ne g hg' e.symm), OwnL.grown (m := [q]) h.g (by simpa using ho) hg, fun k hk hk2 => ?_⟩
  rcases hat with h1 | h1
  · rw [h1] at hk2; exact h.ne k hk hk2
  · rw [h1] at hk2; injection hk2 with hk2; subst hk2
    have := (OwnL.row h.e |>.lt _ hk).2; omega
end
theorem fG_len (l : List (Nat × Nat)) : (l.flatMap eG).length = l.length * 2 := by induction l with | nil => rfl | cons c l ih => simp [eG, ih]; omega
theorem fG_last (l : List (Nat × Nat)) (a b : Nat) : (l.flatMap eG ++ eG (a, b))[l.length * 2 + 1]? = some (.int .i64 (b : Int)) := by
  rw [List.getElem?_append_right (by rw [fG_len]; omega), fG_len]
  simp [eG]
theorem fG_set (l : List (Nat × Nat)) (a b c : Nat) : (l.flatMap eG ++ eG (a, b)).set (l.length * 2 + 1) (.int .i64 (c : Int)) = l.flatMap eG ++ eG (a, c) := by
  rw [List.set_append_right _ _ (by rw [fG_len]; omega), fG_len]
  simp [eG]
/-- The last gap grows. -/
theorem DecI.last {w W : World} {ev : Value} {es : List Ev} {gs : List (Nat × Nat)} {g cap a b n : Nat} (h : DecI w ev (.slice (some ⟨g, 0, none⟩) n cap) es (gs ++ [(a, b)]) W) (hn : n = gs.length + 1) :
    W.cell? ⟨g, gs.length * 2 + 1, none⟩ = some (.int .i64 (b : Int)) ∧ W.frozen? ⟨g, gs.length * 2 + 1, none⟩ = false ∧
      ∀ c : Nat, DecI w ev (.slice (some ⟨g, 0, none⟩) n cap) es (gs ++ [(a, c)]) (W.setCell ⟨g, gs.length * 2 + 1, none⟩ (.int .i64 (c : Int))) := by
  subst hn
  have hr := OwnL.row h.g
  rw [List.length_append, List.flatMap_append] at hr
  have hr' : W.ownsRow w.heap.size 55 2 (.slice (some ⟨g, 0, none⟩) (gs.length + 1) cap) (gs.length + 1) (gs.flatMap eG ++ eG (a, b)) := by simpa using hr
  refine ⟨?_, hr'.frozenAt _, fun c => ?_⟩
  · rw [hr'.cellAt _ (by omega)]; exact fG_last gs a b
  · obtain ⟨s1, s2⟩ := hr'.stored (gs.length * 2 + 1) (.int .i64 (c : Int))
    rw [fG_set] at s1
    have hlt := hr'.lt g rfl
    have hb : Below w.heap.size w (W.setCell ⟨g, gs.length * 2 + 1, none⟩ (.int .i64 (c : Int))) := (OwnL.below h.g).setCell (p := ⟨g, gs.length * 2 + 1, none⟩) hlt.1 _
    refine ⟨OwnL.other h.e hb fun k hk => Below.heap_setCell W _ _ k (fun e => h.ne k hk (by rw [show g = k from e.symm]; rfl)), ⟨by rw [List.length_append, List.flatMap_append]; simpa using s1, hb⟩, h.ne⟩
theorem DecI.gform {w W : World} {ev gv : Value} {es : List Ev} {gs : List (Nat × Nat)} (h : DecI w ev gv es gs W) : (∃ A C, gv = .slice A 0 C ∧ gs = []) ∨ ∃ g cap gs' a b, gv = .slice (some ⟨g, 0, none⟩) (gs'.length + 1) cap ∧ gs = gs' ++ [(a, b)] ∧ gs'.length + 1 ≤ cap := by
  rcases OwnL.form h.g with ⟨h1, h2⟩ | ⟨g, cap, e, h1, h2, h3, h4⟩
  · exact .inl ⟨none, 0, h1, h2⟩
  · cases hl : gs.getLast? with
    | none =>
      have : gs = [] := List.getLast?_eq_none_iff.1 hl
      subst this
      exact .inl ⟨_, _, e, rfl⟩
    | some q =>
      obtain ⟨a, b⟩ := q
      have hs := last_split hl
      refine .inr ⟨g, cap, gs.dropLast, a, b, ?_, hs, ?_⟩
      · rw [e]; congr 1; rw [hs]; simp
      · rw [hs] at h3; simpa using h3
theorem addG_nil (k : Nat) : addG [] k = [(k, k + 1)] := rfl
theorem addG_last (gs : List (Nat × Nat)) (a b k : Nat) : addG (gs ++ [(a, b)]) k = if b = k then gs ++ [(a, k + 1)] else gs ++ [(a, b)] ++ [(k, k + 1)] := by
  unfold addG
  simp
/-- What Decode gives. -/
def DcR (bs : List Nat) (w : World) (r : Ending) (w' : World) : Prop := ∃ ev gv, r = .returned (.tuple #[ev, gv, .int .i64 ((dec bs).2.2 : Nat)]) ∧ DecI w ev gv (dec bs).1 (dec bs).2.1 w'
theorem seven_new (w : World) (x0 x1 x2 x3 x4 x5 x6 : Value) (t : TypeId) : ∀ j u, [x0, x1, x2, x3, x4, x5, x6][j]? = some u → (w.alloc (.cells #[x0, x1, x2, x3, x4, x5, x6] t)).cell? ((⟨w.heap.size, 0, none⟩ : Addr).add j) = some u := by
  intro j u hj
  rcases j with _ | _ | _ | _ | _ | _ | _ | j
  all_goals first | (simp at hj; subst hj; go_simp; done) | (simp at hj)
theorem pair_new (w : World) (x0 x1 : Value) (t : TypeId) : ∀ j u, [x0, x1][j]? = some u → (w.alloc (.cells #[x0, x1] t)).cell? ((⟨w.heap.size, 0, none⟩ : Addr).add j) = some u := by
  intro j u hj
  rcases j with _ | _ | j
  all_goals first | (simp at hj; subst hj; go_simp; done) | (simp at hj)

set_option maxRecDepth 100000 in
set_option maxHeartbeats 4000000 in
theorem decode_any (a : Option Addr) (n cap : Nat) (bs : List Nat) (hn : n ≤ 1000000) (hcap : n ≤ cap) (w : World) (h : BRow w a n bs) :
    Calls Try.prog 29 #[.slice a n cap] w (DcR bs w) := by
  have H := Lib.hid h
  have HL : Hid (bs.length = n) := Lib.hid h.1
  have HT : Hid (∀ T, T = dec bs → go bs (n + 1) 0 [] [] = T) := Lib.hid fun T hT => by rw [hT]; unfold dec; rw [h.1]
  obtain ⟨i0, hi0, hz0, hz1, hz2⟩ := infoEv
  have HQ := Lib.hid (And.intro hi0 (And.intro hz0 (And.intro hz1 hz2)))
  obtain ⟨j0, hj0, hy0, hy1, hy2⟩ := infoGp
  have HP := Lib.hid (And.intro hj0 (And.intro hy0 (And.intro hy1 hy2)))
  clear h hi0 hz0 hz1 hz2 hj0 hy0 hy1 hy2
  unfold DcR
  have HT := Lib.hid (HT.out _ rfl)
  generalize dec bs = T at *
  go_enter Try.func29, Try.ntmps29
  go_wp2_with fail
  go_loopw [5, 6, 7] (fun ev gv z wr => ∃ (k f : Nat) (es : List Ev) (gs : List (Nat × Nat)), z = .int .i64 k ∧ k ≤ n ∧ Hid (n + 1 ≤ k + f) ∧ Hid (es.length ≤ k) ∧ Hid (gs.length ≤ k) ∧ Hid (DecI w ev gv es gs wr) ∧ Hid (go bs f k es gs = T)) (fun _ _ z _ => n - (intOf z).toNat)
  case atStart => exact ⟨0, n + 1, [], [], rfl, by omega, Lib.hid (by omega), Lib.hid (by simp), Lib.hid (by simp), Lib.hid ⟨OwnL.nil _ _ _ _, OwnL.nil _ _ _ _, fun _ h => by cases h⟩, HT⟩
  case round =>
    clear HT
    obtain ⟨k, f, es, gs, rfl, hk, HF, HLe, HLg, HI, HG⟩ := hrel
    by_cases hlt : k + 24 ≤ n
    · have t0 : decide ((24 : Int) ≤ (n : Int) - (k : Int)) = true := decide_eq_true (by omega)
      obtain ⟨x, hx0, hx⟩ := H.out.2.2 (by omega)
      clear hx
      subst hx0
      have E : Hid (Calls Try.prog 54 #[.slice (some (x.add k)) 24 (cap - k)] wr (EvR (rd (sl bs k (k + 24))) wr)) := Lib.hid (by
        have hr := ((H.out.more ((OwnL.below HI.out.e).mono (Nat.le_refl _))).sub k (k + 24) (by omega) (by omega))
        rw [show k + 24 - k = 24 by omega] at hr
        exact event_any (x.add k) (cap - k) _ (by omega) wr hr)
      obtain ⟨f, rfl⟩ : ∃ f', f = f' + 1 := ⟨f - 1, by have := HF.out; omega⟩
      have q1 : (0 : Int) ≤ (k : Int) := by omega
      have q2 : (k : Int) ≤ (k : Int) + 24 := by omega
      have q3 : (k : Int) + 24 ≤ (cap : Int) := by omega
      have q4 : ¬ cap = k := by omega
      have HN := Lib.hid hn
      cases hrd : rd (sl bs k (k + 24)) with
      | some e =>
        rw [hrd] at E
        have HG2 : Hid (go bs f (k + 24) (es ++ [e]) gs = T) := Lib.hid (by rw [← HG.out, go_some (by have := HL.out; omega) hrd])
        clear hrd HG
        obtain ⟨kt, ks, em, ti, ki, tt, ts⟩ := e
        go_wp2_with fail
        refine E.out.mono ?_
        rintro r w2 ⟨rfl, b2⟩
        have I2 := Lib.hid (HI.out.more b2)
        clear b2 E HI
        unfold EvV vE
        simp only
        have X3 : Hid (BxE (w2.alloc (.cells #[.int .i64 kt, .int .i64 ks, .int .i64 em, .int .i64 ti, .int .i64 ki, .int .i64 tt, .int .i64 ts] 26)) w2.heap.size ⟨kt, ks, em, ti, ki, tt, ts⟩) := Lib.hid (BxE.new w2 ⟨kt, ks, em, ti, ki, tt, ts⟩ _)
        have I3 := Lib.hid (I2.out.alloc (.cells #[.int .i64 kt, .int .i64 ks, .int .i64 em, .int .i64 ti, .int .i64 ki, .int .i64 tt, .int .i64 ts] 26))
        clear I2
        go_upto_region 7 with fail
        generalize w2.alloc (.cells #[.int .i64 kt, .int .i64 ks, .int .i64 em, .int .i64 ti, .int .i64 ki, .int .i64 tt, .int .i64 ts] 26) = wA at *
        obtain ⟨x0, x1, x2, x3, x4, x5, x6⟩ := X3.out.at7
        simp only at x0 x1 x2 x3 x4 x5 x6
        have I4 := Lib.hid (I3.out.alloc (.cells #[.int .i64 kt, .int .i64 ks, .int .i64 em, .int .i64 ti, .int .i64 ki, .int .i64 tt, .int .i64 ts] 26))
        clear I3 X3
        have le1 := HLe.out
        go_wp2_with (at_builtin; refine wpList_append_own_at _ rfl _ _ 44 rfl w.heap.size 26 i0 (.agg #[.int .i64 0, .int .i64 0, .int .i64 0, .int .i64 0, .int .i64 0, .int .i64 0, .int .i64 0]) 7 56 Try.underlying44 HQ.out.1 HQ.out.2.1 HQ.out.2.2.1 HQ.out.2.2.2 rfl (by decide) _ _ _ rfl (OwnL.row I4.out.e) ⟨wA.heap.size, 0, none⟩ 1 1 [.int .i64 kt, .int .i64 ks, .int .i64 em, .int .i64 ti, .int .i64 ki, .int .i64 tt, .int .i64 ts] rfl rfl (seven_new _ _ _ _ _ _ _ _ _) ?m2 ?m3 ?m4 (OwnL.below I4.out.e).size ?_)
        case m2 => intro x hx; simp at hx; rcases hx with rfl | rfl | rfl | rfl | rfl | rfl | rfl <;> rfl
        case m3 => unfold maxLen; omega
        case m4 => omega
        intro v5 w5 hown hgrow _ hat
        have I5 := Lib.hid (I4.out.pushE (v2 := v5) ⟨kt, ks, em, ti, ki, tt, ts⟩ hown hgrow hat (by simp))
        clear hown hgrow hat I4 x0 x1 x2 x3 x4 x5 x6
        go_wp2_with fail
        go_roundw
        case rel => exact ⟨k + 24, f, _, gs, by go_num, by omega, Lib.hid (by have := HF.out; omega), Lib.hid (by simp; omega), Lib.hid (by have := HLg.out; omega), I5, HG2⟩
        case measure => simp [intOf]; omega
      | none =>
        rw [hrd] at E
        have HG2 : Hid (go bs f (k + 1) es (addG gs k) = T) := Lib.hid (by rw [← HG.out, go_none (by have := HL.out; omega) hrd])
        clear hrd HG
        go_wp2_with fail
        refine E.out.mono ?_
        rintro r w2 ⟨rfl, b2⟩
        have I2 := Lib.hid (HI.out.more b2)
        clear b2 E HI
        unfold EvV vE zE
        simp only
        have I3 := Lib.hid (I2.out.alloc (.cells #[.int .i64 0, .int .i64 0, .int .i64 0, .int .i64 0, .int .i64 0, .int .i64 0, .int .i64 0] 26))
        clear I2
        have le1 := HLg.out
        rcases I3.out.gform with ⟨A, C, rfl, rfl⟩ | ⟨g, gcap, gs', ga, gb, rfl, rfl, hgc⟩
        · rw [addG_nil] at HG2
          go_upto_region 12 with fail
          generalize w2.alloc (.cells #[.int .i64 0, .int .i64 0, .int .i64 0, .int .i64 0, .int .i64 0, .int .i64 0, .int .i64 0] 26) = wA at *
          have I4 := Lib.hid (I3.out.alloc (.cells #[.int .i64 (k : Int), .int .i64 ((k : Int) + 1)] 55))
          clear I3
          go_wp2_with (at_builtin; refine wpList_append_own_at _ rfl _ _ 46 rfl w.heap.size 55 j0 (.agg #[.int .i64 0, .int .i64 0]) 2 16 Try.underlying46 HP.out.1 HP.out.2.1 HP.out.2.2.1 HP.out.2.2.2 rfl (by decide) _ _ _ rfl (OwnL.row I4.out.g) ⟨wA.heap.size, 0, none⟩ 1 1 [.int .i64 (k : Int), .int .i64 ((k : Int) + 1)] rfl rfl (pair_new _ _ _ _) ?p2 ?p3 ?p4 (OwnL.below I4.out.g).size ?_)
          case p2 => intro x hx; simp at hx; rcases hx with rfl | rfl <;> rfl
          case p3 => simp [maxLen]
          case p4 => simp
          intro v5 w5 hown hgrow _ hat
          have I5 := Lib.hid (I4.out.pushG (v2 := v5) (k, k + 1) hown hgrow hat (by simp))
          clear hown hgrow hat I4
          go_wp2_with fail
          go_roundw
          case rel => exact ⟨k + 1, f, _, _, by go_num, by omega, Lib.hid (by have := HF.out; omega), Lib.hid (by have := HLe.out; omega), Lib.hid (by simp), I5, HG2⟩
          case measure => simp [intOf]; omega
        · rw [addG_last] at HG2
          obtain ⟨lc, lf, lput⟩ := I3.out.last rfl
          have LP := Lib.hid lput
          have hgl : gs'.length + 1 ≤ 1000000 := by simp at le1; omega
          have HGL := Lib.hid (show (gs' ++ [(ga, gb)]).length = gs'.length + 1 by simp)
          clear lput
          by_cases hb : gb = k
          · subst hb
            rw [if_pos rfl] at HG2
            generalize gs'.length = G at *
            have I5 : Hid (DecI w u5 (.slice (some ⟨g, 0, none⟩) (G + 1) gcap) es (gs' ++ [(ga, gb + 1)]) ((w2.alloc (.cells #[.int .i64 0, .int .i64 0, .int .i64 0, .int .i64 0, .int .i64 0, .int .i64 0, .int .i64 0] 26)).setCell ⟨g, G * 2 + 1, none⟩ (.int .i64 ((gb : Int) + 1)))) := Lib.hid (LP.out (gb + 1))
            have HL2 := Lib.hid (show (gs' ++ [(ga, gb + 1)]).length = (gs' ++ [(ga, gb)]).length by simp)
            go_wp2_with fail
            go_roundw
            case rel => exact ⟨gb + 1, f, es, gs' ++ [(ga, gb + 1)], by go_num, by omega, Lib.hid (by have := HF.out; omega), Lib.hid (by have := HLe.out; omega), Lib.hid (by rw [HL2.out]; omega), I5, HG2⟩
            case measure => simp [intOf]; omega
          · rw [if_neg hb] at HG2
            have tb : ((gb : Int) == (k : Int)) = false := by simp; omega
            generalize gs'.length = G at *
            have le2 : G + 1 ≤ k := by rw [HGL.out] at le1; exact le1
            go_upto_region 12 with fail
            generalize w2.alloc (.cells #[.int .i64 0, .int .i64 0, .int .i64 0, .int .i64 0, .int .i64 0, .int .i64 0, .int .i64 0] 26) = wA at *
            have I4 := Lib.hid (I3.out.alloc (.cells #[.int .i64 (k : Int), .int .i64 ((k : Int) + 1)] 55))
            clear I3
            go_wp2_with (at_builtin; refine wpList_append_own_at _ rfl _ _ 46 rfl w.heap.size 55 j0 (.agg #[.int .i64 0, .int .i64 0]) 2 16 Try.underlying46 HP.out.1 HP.out.2.1 HP.out.2.2.1 HP.out.2.2.2 rfl (by decide) _ _ _ rfl (OwnL.row I4.out.g) ⟨wA.heap.size, 0, none⟩ 1 1 [.int .i64 (k : Int), .int .i64 ((k : Int) + 1)] rfl rfl (pair_new _ _ _ _) ?r2 ?r3 ?r4 (OwnL.below I4.out.g).size ?_)
            case r2 => intro x hx; simp at hx; rcases hx with rfl | rfl <;> rfl
            case r3 => unfold maxLen; rw [HGL.out]; omega
            case r4 => rw [HGL.out]; omega
            intro v5 w5 hown hgrow _ hat
            have I5 := Lib.hid (I4.out.pushG (v2 := v5) (k, k + 1) (by simpa [eG] using hown) hgrow hat (by simp))
            clear hown hgrow hat I4
            go_wp2_with fail
            go_roundw
            case rel => exact ⟨k + 1, f, _, _, by go_num, by omega, Lib.hid (by have := HF.out; omega), Lib.hid (by have := HLe.out; omega), Lib.hid (by rw [List.length_append, HGL.out]; simp; omega), I5, HG2⟩
            case measure => simp [intOf]; omega
    · have t0 : decide ((24 : Int) ≤ (n : Int) - (k : Int)) = false := decide_eq_false (by omega)
      have HE : Hid (T = (es, gs, k)) := Lib.hid (by rw [← HG.out, go_end (by have := HL.out; omega)])
      clear HG
      go_wp2_with fail
      exact bodyPost_ret (v := .tuple #[u5, u6, .int .i64 (k : Int)]) (by simp [results, Try.results29, go_sem]) rfl ⟨_, _, by rw [HE.out], by rw [HE.out]; exact HI.out⟩
end Go.Proofs.Ytebdldinlodgpaa.Rc
