/-
  Layer 7 (records): the walk of RecordsComeBack: the answer is true. No condition.
-/
import Derived.Test.YtebdldinlodgpaaPrJs
import Derived.Test.YtebdldinlodgpaaPrJr
namespace Go.Proofs.Ytebdldinlodgpaa.Rc
open Go Go.RowKit Go.Lib Go.Sort Go.Shelf Go.Proofs Go.Proofs.Ytebdldinlodgpaa Go.Proofs.Ytebdldinlodgpaa.Tp
set_option linter.unusedVariables false

theorem OwnB.slc {w W : World} {v : Value} {l : List Nat} (h : OwnB w v l W) (hl : By l) : ∃ a cap, v = .slice a l.length cap ∧ l.length ≤ cap ∧ BRow W a l.length l := by
  rcases OwnL.form h with ⟨e, rfl⟩ | ⟨g, cap', e, h1, h2, h3, _⟩
  · exact ⟨none, 0, e, Nat.le_refl _, rfl, hl, fun h => absurd h (by decide)⟩
  · subst e
    exact ⟨_, cap', rfl, h3, (OwnB.brow h hl).1⟩
theorem GRow.nil0 (W : World) : GRow W (.slice none 0 0) [] := ⟨none, 0, rfl, fun h => absurd h (by decide)⟩
theorem frs_take {es : List Ev} {i : Nat} (h : i < es.length) : frs (es.take (i + 1)) = frs (es.take i) ++ frame es[i]! := by
  rw [List.take_add_one, List.getElem?_eq_getElem h, frs_app, getElem!_pos es i h]
  simp [frs]
theorem ERow.only {W W' : World} {b : Nat} {v : Value} {es : List Ev} (h : ERow W v es) (ho : Only b W W') (hb : ∀ g, v.ownBlock = some g → g ≠ b) : ERow W' v es := by
  obtain ⟨A, C, e, h⟩ := h
  refine ⟨A, C, e, fun hn => ?_⟩
  obtain ⟨g, hg, hc⟩ := h hn
  exact ⟨g, hg, fun i hi => (hc i hi).keep (ho.block g (hc i hi).lt (hb g (by rw [e, hg]; rfl)))⟩

set_option maxRecDepth 100000 in
set_option maxHeartbeats 8000000 in
theorem comeback_walk (t0 : Option Addr) (len cap : Nat) (zs : List Int) (w : World) (hr : IsRow w t0 len cap zs) (hlen : len ≤ 9223372036854775807) :
    Calls Try.prog 5 #[.slice t0 len cap] w (TrueR w) := by
  have T0 := Lib.hid (tape_new hr hlen 73)
  have B0 := Lib.hid (show Below w.heap.size w (w.alloc (.cells #[.slice t0 len cap, .int .i64 0] 73)) from (Below.refl _ _).alloc (Nat.le_refl _) _)
  obtain ⟨i0, hi0, hz0, hz1, hz2⟩ := info1
  have HQ := Lib.hid (And.intro hi0 (And.intro hz0 (And.intro hz1 hz2)))
  clear hr hlen hi0 hz0 hz1 hz2
  go_enter Try.func5, Try.ntmps5
  go_wp2_with fail
  refine (gnew_any t0 len cap _).mono ?_
  rintro e w0 ⟨rfl, rfl⟩
  go_wp2_with fail
  refine (events_any w.heap.size 6 (by omega) _ T0.out).mono ?_
  rintro e w1 ⟨v, es, rfl, hE, hle, hok, T1, O1⟩
  have B1 := Lib.hid (B0.out.trans (O1.below (Nat.le_refl _) B0.out.size))
  have HE := Lib.hid hE
  have OK := Lib.hid hok
  clear T0 B0 hok T1 O1
  obtain ⟨A, C, rfl, hE⟩ := hE
  have HC := Lib.hid hE
  clear hE
  have HN : Hid (es.length ≤ 6) := Lib.hid hle
  generalize hn : es.length = n at hle HC ⊢
  have EN := Lib.hid hn
  clear hn
  go_wp2_with fail
  go_loopw [4, 5] (fun x z wr => ∃ i : Nat, z = .int .i64 i ∧ i ≤ n ∧ Hid (OwnB w1 x (frs (es.take i)) wr)) (fun _ z _ => n - (intOf z).toNat)
  case atStart => exact ⟨0, rfl, by omega, Lib.hid (OwnL.nil _ _ _ _)⟩
  case round =>
    obtain ⟨i, rfl, hi, HO⟩ := hrel
    by_cases hlt : i < n
    · obtain ⟨g, hg0, hg⟩ := HC.out (by omega)
      subst hg0
      have i1 : (i : Int) < (n : Int) := by omega
      have oke : okE es[i]! = true := OK.out _ (by rw [getElem!_pos es i (by have := EN.out; omega)]; exact List.getElem_mem _)
      have FT := Lib.hid (frs_take (es := es) (i := i) (by have := EN.out; omega))
      have FL := Lib.hid (frs_len (es.take i))
      have FL2 : Hid ((es.take i).length ≤ 6) := Lib.hid (by rw [List.length_take]; omega)
      have at7 := (hg i hlt).keep ((OwnL.below HO.out).block g (hg i hlt).lt)
      clear hg
      generalize es[i]! = e at *
      have EC : Hid (∀ W, Calls Try.prog 17 #[vE e] W fun r W' => ∃ a cap, r = .returned (.tuple #[.slice a 24 cap, .int .i64 0]) ∧ OwnB W (.slice a 24 cap) (frame e) W') := Lib.hid (fun W => enc_ok e oke W)
      have FE := Lib.hid (frame_len e)
      have FB := Lib.hid (frame_by oke)
      clear oke
      generalize frame e = F at *
      obtain ⟨kt, ks, em, ti, ki, tt, ts⟩ := e
      unfold vE at EC
      obtain ⟨x0, x1, x2, x3, x4, x5, x6⟩ := at7
      simp only at x0 x1 x2 x3 x4 x5 x6 EC
      go_wp2_with fail
      refine (EC.out _).mono ?_
      rintro r w3 ⟨a3, c3, rfl, h3⟩
      have HO3 := Lib.hid (OwnL.more HO.out (OwnL.below h3))
      have R3 := Lib.hid (OwnB.brow h3 FB.out).1
      obtain ⟨x, hx, _⟩ := R3.out.2.2 (by decide)
      subst hx
      have NW := Lib.hid (BRow.news R3.out)
      have NL : Hid ((F.flatMap eB).length = 24 * 1) := Lib.hid (by rw [fB_len, FE.out])
      have le3 : (frs (es.take i)).length ≤ 144 := by rw [FL.out]; have := FL2.out; omega
      clear h3 HO R3 EC x0 x1 x2 x3 x4 x5 x6
      go_wp2_with (at_builtin; refine wpList_append_own _ rfl _ _ 27 rfl w1.heap.size 5 i0 (.int .u8 0) 1 1 Try.underlying27 HQ.out.1 HQ.out.2.1 HQ.out.2.2.1 HQ.out.2.2.2 rfl (by decide) _ _ _ rfl (OwnL.row HO3.out) x 24 c3 (F.flatMap eB) rfl NL.out NW.out (fB_one F) ?m3 ?m4 (OwnL.below HO3.out).size ?_)
      case m3 => unfold maxLen; omega
      case m4 => omega
      intro v4 w4 hown hgrow _
      have HO4 : Hid (OwnB w1 v4 (frs (es.take (i + 1))) w4) := Lib.hid (by rw [FT.out]; exact OwnL.grown (m := F) HO3.out (by rw [FE.out]; exact hown) hgrow)
      clear hown hgrow HO3 NW NL
      go_wp2_with fail
      go_roundw
      case rel => exact ⟨i + 1, by go_num, by omega, HO4⟩
      case measure => simp [intOf]; omega
    · obtain rfl : i = n := by omega
      have t0 : decide ((i : Int) < (i : Int)) = false := decide_eq_false (by omega)
      have e1 : es.take i = es := List.take_of_length_le (by have := EN.out; omega)
      rw [e1] at HO
      have FB := Lib.hid (frs_by OK.out)
      have FL := Lib.hid (frs_len es)
      obtain ⟨a2, c2, hv, hc2, hB⟩ := OwnB.slc HO.out FB.out
      subst hv
      have DC := Lib.hid (decode_any a2 (frs es).length c2 (frs es) (by rw [FL.out]; have := HN.out; omega) hc2 _ hB)
      unfold DcR at DC
      rw [dec_frs OK.out] at DC
      simp only at DC
      have BR := Lib.hid (B1.out.trans ((OwnL.below HO.out).mono B1.out.size))
      have HER := Lib.hid (HE.out.more (OwnL.below HO.out))
      clear HO hB OK
      rw [FL.out, EN.out] at DC ⊢
      have hi6 : i ≤ 6 := hle
      go_wp2_with fail
      refine DC.out.mono ?_
      rintro r w3 ⟨ev, gv, rfl, I3⟩
      have E3 := Lib.hid (OwnE.erow I3.e)
      have G3 := Lib.hid (OwnG.grow I3.g)
      have BR3 := Lib.hid (BR.out.trans ((OwnL.below I3.e).mono BR.out.size))
      have HER3 := Lib.hid (HER.out.more ((OwnL.below I3.e)))
      clear I3 DC HER BR
      have HERi : Hid (ERow w3 (.slice A i C) es) := Lib.hid (by have := HER3.out; rw [EN.out] at this; exact this)
      have SM := Lib.hid (same_any (.slice A i C) (.slice none 0 0) ev gv es [] (by have := HN.out; omega) (by decide) w3 HERi.out (GRow.nil0 _) E3.out G3.out)
      clear HERi HER3 E3 G3
      go_wp2_with fail
      refine SM.out.mono ?_
      rintro r w4 ⟨rfl, b4⟩
      have BR4 := Lib.hid (BR3.out.trans (b4.mono BR3.out.size))
      clear b4 SM BR3
      go_wp2_with fail
      refine (sane_any _).mono ?_
      rintro r w5 ⟨rfl, b5⟩
      have BR5 := Lib.hid (BR4.out.trans (b5.mono BR4.out.size))
      clear b5 BR4
      go_wp2_with fail
      go_ret
      exact ⟨rfl, BR5.out⟩
end Go.Proofs.Ytebdldinlodgpaa.Rc
