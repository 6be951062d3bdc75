/-
  Layer 8 (inbox): the generator's Events, with the row that it owns; the law's spoilt. Condition: the tape's block reads as a tape.
-/
import Derived.Test.YtebdldinlodgpaaPrL8
import Derived.Test.YtebdldinlodgpaaPrJs
import Derived.Test.YtebdldinlodgpaaPrKs
import Derived.Maps.AppendAt
namespace Go.Proofs.Ytebdldinlodgpaa.Rc
open Go Go.RowKit Go.Lib Go.Sort Go.Shelf Go.Proofs Go.Proofs.Ytebdldinlodgpaa Go.Proofs.Ytebdldinlodgpaa.Tp
set_option linter.unusedVariables false
/-- A row of events that the call owns. -/
def ERw (B : Nat) (v : Value) (es : List Ev) (W : World) : Prop := W.ownsRow B 26 7 v es.length (es.flatMap eE)
def EsO (b n : Nat) (w : World) (r : Ending) (w' : World) : Prop := ∃ v es, r = .returned v ∧ ERw w.heap.size v es w' ∧ es.length ≤ n ∧ (∀ e ∈ es, okE e = true) ∧ TapeAt b w' ∧ Only b w w'
set_option maxRecDepth 100000 in
set_option maxHeartbeats 8000000 in
theorem events2_any (b n : Nat) (hn : n ≤ 100) (w : World) (h : TapeAt b w) :
    Calls Try.prog 28 #[.pointer (some ⟨b, 0, none⟩), .int .i64 n] w (EsO b n w) := by
  obtain ⟨i0, hi0, hz0, hz1, hz2⟩ := infoEv
  have HQ := Lib.hid (And.intro hi0 (And.intro hz0 (And.intro hz1 hz2)))
  have hlt := h.lt
  go_enter Try.func28, Try.ntmps28
  go_wp2_with fail
  refine (next_any b ((n : Int) + 1) (by omega) (by omega) _ h).mono ?_
  rintro e w1 ⟨m, rfl, m0, m1, T1, O1⟩
  obtain ⟨m, rfl⟩ := Int.eq_ofNat_of_zero_le m0
  have HI0 := Lib.hid (show EvI w b (.slice none 0 0) [] w1 from ⟨T1, O1, World.ownsRow_nil _ _ _ _, hlt⟩)
  clear T1 O1 h m0 hi0 hz0 hz1 hz2
  go_wp2_with fail
  go_loopw [5, 6] (fun v z wr => ∃ (i : Nat) (es : List Ev), z = .int .i64 i ∧ Hid (es.length + i ≤ n) ∧ Hid (EvI w b v es wr) ∧ Hid (∀ e ∈ es, okE e = true)) (fun _ z _ => (intOf z).toNat)
  case atStart => exact ⟨m, [], rfl, Lib.hid (by simp; omega), HI0, Lib.hid (by simp)⟩
  case round =>
    clear HI0
    obtain ⟨i, es, rfl, hle, HI, HC⟩ := hrel
    by_cases hpos : 0 < i
    · have t0 : decide ((0 : Int) < (i : Int)) = true := decide_eq_true (by omega)
      obtain ⟨I, hI⟩ : ∃ I, I = i - 1 := ⟨_, rfl⟩
      have wi : IntKind.i64.wrap ((i : Int) - 1) = (I : Int) := by have := hle.out; rw [IntKind.wrap_i64]; omega
      have wi2 : (i : Int) - 1 = (I : Int) := by omega
      have hI3 : I < i := by omega
      have HLE : Hid (es.length + 1 + I ≤ n) := Lib.hid (by have := hle.out; omega)
      clear hI
      have FM : (∃ A C, u5 = .slice A 0 C ∧ es = []) ∨ ∃ g cap, u5 = .slice (some ⟨g, 0, none⟩) es.length cap ∧ 0 < es.length ∧ w.heap.size ≤ g := by
        rcases HI.out.row.2 with ⟨e, h0⟩ | ⟨g, cap, cur, e, h1, _⟩
        · exact .inl ⟨none, 0, e, List.length_eq_zero_iff.1 h0⟩
        · rcases Nat.eq_zero_or_pos es.length with h0 | h0
          · exact .inl ⟨_, cap, by rw [e, h0], List.length_eq_zero_iff.1 h0⟩
          · exact .inr ⟨g, cap, e, h0, h1⟩
      rcases FM with ⟨A, C, rfl, rfl⟩ | ⟨g, cap, rfl, hpe, hge⟩
      · go_upto_region 7 with fail
        go_wp2_with fail
        refine (gevent_any b _ HI.out.tape).mono ?_
        rintro r w5 ⟨e, rfl, oke, T5, O5⟩
        have HI5 := Lib.hid (HI.out.step T5 O5)
        have HC5 : Hid (∀ x ∈ ([] : List Ev) ++ [e], okE x = true) := Lib.hid fun x hx => by
          rcases List.mem_append.1 hx with h1 | h1
          · exact HC.out x h1
          · rw [List.mem_singleton] at h1; subst h1; exact oke
        clear T5 O5 oke HI
        obtain ⟨kt, ks, em, ti, ki, tt, ts⟩ := e
        unfold vE
        simp only
        have HI6 := Lib.hid (HI5.out.alloc (.cells #[.int .i64 kt, .int .i64 ks, .int .i64 em, .int .i64 ti, .int .i64 ki, .int .i64 tt, .int .i64 ts] 26))
        clear HI5
        have le1 := HLE.out
        go_wp2_with (at_builtin; refine wpList_append_own _ rfl _ _ 44 rfl w.heap.size 26 i0 (.agg #[.int .i64 0, .int .i64 0, .int .i64 0, .int .i64 0, .int .i64 0, .int .i64 0, .int .i64 0]) 7 56 Try.underlying44 HQ.out.1 HQ.out.2.1 HQ.out.2.2.1 HQ.out.2.2.2 rfl (by decide) _ _ _ rfl HI6.out.row ⟨w5.heap.size, 0, none⟩ 1 1 [.int .i64 kt, .int .i64 ks, .int .i64 em, .int .i64 ti, .int .i64 ki, .int .i64 tt, .int .i64 ts] rfl rfl (seven_new _ _ _ _ _ _ _ _ _) ?p2 ?p3 ?p4 HI6.out.only.size ?_)
        case p2 => intro x hx; simp at hx; rcases hx with rfl | rfl | rfl | rfl | rfl | rfl | rfl <;> rfl
        case p3 => unfold maxLen; omega
        case p4 => omega
        intro v7 w7 hown hgrow _
        have HI7 := Lib.hid (HI6.out.grown (e := ⟨kt, ks, em, ti, ki, tt, ts⟩) (by simpa [eE] using hown) hgrow)
        clear hown hgrow HI6
        go_wp2_with fail
        go_roundw
        case rel => exact ⟨I, _, by go_num, Lib.hid (by simp; omega), HI7, HC5⟩
        case measure => simp [intOf]; omega
      · have t1 : decide ((0 : Int) < (es.length : Int)) = true := decide_eq_true (by omega)
        generalize hN : es.length = N at *
        have HN := Lib.hid hN
        clear hN
        go_wp2_with fail
        refine (next_any b 8 (by omega) (by omega) _ HI.out.tape).mono ?_
        rintro e w2 ⟨q, rfl, q0, q1, T2, O2⟩
        have HI2 := Lib.hid (HI.out.step T2 O2)
        clear T2 O2 HI
        by_cases q7 : q = 7
        · subst q7
          go_wp2_with fail
          refine (next_any b N (by omega) (by have := HLE.out; omega) _ HI2.out.tape).mono ?_
          rintro r w3 ⟨j, rfl, j0, j1, T3, O3⟩
          have HI3 := Lib.hid (HI2.out.step T3 O3)
          clear T3 O3 HI2
          obtain ⟨j, rfl⟩ := Int.eq_ofNat_of_zero_le j0
          have jl : j < N := by omega
          have AT := Lib.hid (HI3.out.at (i := j) (by have := HN.out; omega))
          have OKJ : okE es[j]! = true := HC.out _ (by rw [getElem!_pos es j (by have := HN.out; omega)]; exact List.getElem_mem _)
          have HC5 : Hid (∀ x ∈ es ++ [es[j]!], okE x = true) := Lib.hid fun x hx => by
            rcases List.mem_append.1 hx with h1 | h1
            · exact HC.out x h1
            · rw [List.mem_singleton] at h1; subst h1; exact OKJ
          clear OKJ
          have at7 := AT.out
          generalize es[j]! = e at *
          obtain ⟨kt, ks, em, ti, ki, tt, ts⟩ := e
          have HI6 := Lib.hid (HI3.out.alloc (.cells #[.int .i64 kt, .int .i64 ks, .int .i64 em, .int .i64 ti, .int .i64 ki, .int .i64 tt, .int .i64 ts] 26))
          clear HI3 AT
          obtain ⟨x0, x1, x2, x3, x4, x5, x6⟩ := at7
          simp only at x0 x1 x2 x3 x4 x5 x6
          have le1 := HLE.out
          go_wp2_with (at_builtin; refine wpList_append_own _ rfl _ _ 44 rfl w.heap.size 26 i0 (.agg #[.int .i64 0, .int .i64 0, .int .i64 0, .int .i64 0, .int .i64 0, .int .i64 0, .int .i64 0]) 7 56 Try.underlying44 HQ.out.1 HQ.out.2.1 HQ.out.2.2.1 HQ.out.2.2.2 rfl (by decide) _ _ _ rfl HI6.out.row ⟨w3.heap.size, 0, none⟩ 1 1 [.int .i64 kt, .int .i64 ks, .int .i64 em, .int .i64 ti, .int .i64 ki, .int .i64 tt, .int .i64 ts] rfl rfl (seven_new _ _ _ _ _ _ _ _ _) ?s2 ?s3 ?s4 HI6.out.only.size ?_)
          case s2 => intro x hx; simp at hx; rcases hx with rfl | rfl | rfl | rfl | rfl | rfl | rfl <;> rfl
          case s3 => have := HN.out; unfold maxLen; omega
          case s4 => have := HN.out; omega
          intro v7 w7 hown hgrow _
          have HI7 := Lib.hid (HI6.out.grown (e := ⟨kt, ks, em, ti, ki, tt, ts⟩) hown hgrow)
          clear hown hgrow HI6 x0 x1 x2 x3 x4 x5 x6
          go_wp2_with fail
          go_roundw
          case rel => exact ⟨I, _, by go_num, Lib.hid (by have := HN.out; simp; omega), HI7, HC5⟩
          case measure => simp [intOf]; omega
        · have t7 : (q == 7) = false := by simpa using q7
          go_upto_region 7 with fail
          go_wp2_with fail
          refine (gevent_any b _ HI2.out.tape).mono ?_
          rintro r w5 ⟨e, rfl, oke, T5, O5⟩
          have HI5 := Lib.hid (HI2.out.step T5 O5)
          have HC5 : Hid (∀ x ∈ es ++ [e], okE x = true) := Lib.hid fun x hx => by
            rcases List.mem_append.1 hx with h1 | h1
            · exact HC.out x h1
            · rw [List.mem_singleton] at h1; subst h1; exact oke
          clear T5 O5 oke HI2
          obtain ⟨kt, ks, em, ti, ki, tt, ts⟩ := e
          unfold vE
          simp only
          have HI6 := Lib.hid (HI5.out.alloc (.cells #[.int .i64 kt, .int .i64 ks, .int .i64 em, .int .i64 ti, .int .i64 ki, .int .i64 tt, .int .i64 ts] 26))
          clear HI5
          have le1 := HLE.out
          go_wp2_with (at_builtin; refine wpList_append_own _ rfl _ _ 44 rfl w.heap.size 26 i0 (.agg #[.int .i64 0, .int .i64 0, .int .i64 0, .int .i64 0, .int .i64 0, .int .i64 0, .int .i64 0]) 7 56 Try.underlying44 HQ.out.1 HQ.out.2.1 HQ.out.2.2.1 HQ.out.2.2.2 rfl (by decide) _ _ _ rfl HI6.out.row ⟨w5.heap.size, 0, none⟩ 1 1 [.int .i64 kt, .int .i64 ks, .int .i64 em, .int .i64 ti, .int .i64 ki, .int .i64 tt, .int .i64 ts] rfl rfl (seven_new _ _ _ _ _ _ _ _ _) ?r2 ?r3 ?r4 HI6.out.only.size ?_)
          case r2 => intro x hx; simp at hx; rcases hx with rfl | rfl | rfl | rfl | rfl | rfl | rfl <;> rfl
          case r3 => have := HN.out; unfold maxLen; omega
          case r4 => have := HN.out; omega
          intro v7 w7 hown hgrow _
          have HI7 := Lib.hid (HI6.out.grown (e := ⟨kt, ks, em, ti, ki, tt, ts⟩) hown hgrow)
          clear hown hgrow HI6
          go_wp2_with fail
          go_roundw
          case rel => exact ⟨I, _, by go_num, Lib.hid (by have := HN.out; simp; omega), HI7, HC5⟩
          case measure => simp [intOf]; omega
    · have t0 : decide ((0 : Int) < (i : Int)) = false := decide_eq_false (by omega)
      go_wp2_with fail
      go_ret
      exact ⟨_, es, rfl, HI.out.row, by have := hle.out; omega, HC.out, HI.out.tape, HI.out.only⟩
end Go.Proofs.Ytebdldinlodgpaa.Rc
namespace Go.Proofs.Ytebdldinlodgpaa.Ib
open Go Go.RowKit Go.Lib Go.Sort Go.Shelf Go.Proofs Go.Proofs.Ytebdldinlodgpaa Go.Proofs.Ytebdldinlodgpaa.Tp Go.Proofs.Ytebdldinlodgpaa.Gm Go.Proofs.Ytebdldinlodgpaa.Rc Go.Proofs.Ytebdldinlodgpaa.SE
set_option linter.unusedVariables false
/-- Only blocks b and c may have changed. -/
structure Only2 (b : Nat) (c : Option Nat) (w w' : World) : Prop where
  os : w'.os = w.os
  tape : w'.tape = w.tape
  output : w'.output = w.output
  size : w.heap.size ≤ w'.heap.size
  block : ∀ k, k < w.heap.size → k ≠ b → some k ≠ c → w'.heap[k]? = w.heap[k]?
theorem Only2.of {b : Nat} {c : Option Nat} {w w' : World} (h : Only b w w') : Only2 b c w w' := ⟨h.os, h.tape, h.output, h.size, fun k hk hn _ => h.block k hk hn⟩
theorem Only2.grown {b : Nat} {c : Option Nat} {w w' w'' : World} (h : Only2 b c w w') (g : w'.grownBy w'' c) : Only2 b c w w'' :=
  ⟨g.os.trans h.os, g.tape.trans h.tape, g.output.trans h.output, Nat.le_trans h.size g.size, fun k hk hn hc => (g.block k (Nat.lt_of_lt_of_le hk h.size) (fun e => hc e)).trans (h.block k hk hn hc)⟩
theorem row0_put {W : World} {B g n cap : Nat} {c e : Ev} {r : List Ev} (h : W.ownsRow B 26 7 (.slice (some ⟨g, 0, none⟩) n cap) n ((c :: r).flatMap eE)) :
    (((((((W.setCell ⟨g, 0, none⟩ (.int .i64 e.kt)).setCell ⟨g, 1, none⟩ (.int .i64 e.ks)).setCell ⟨g, 2, none⟩ (.int .i64 e.em)).setCell ⟨g, 3, none⟩ (.int .i64 e.ti)).setCell ⟨g, 4, none⟩ (.int .i64 e.ki)).setCell ⟨g, 5, none⟩ (.int .i64 e.tt)).setCell ⟨g, 6, none⟩ (.int .i64 e.ts)).ownsRow B 26 7 (.slice (some ⟨g, 0, none⟩) n cap) n ((e :: r).flatMap eE) ∧ W.grownBy (((((((W.setCell ⟨g, 0, none⟩ (.int .i64 e.kt)).setCell ⟨g, 1, none⟩ (.int .i64 e.ks)).setCell ⟨g, 2, none⟩ (.int .i64 e.em)).setCell ⟨g, 3, none⟩ (.int .i64 e.ti)).setCell ⟨g, 4, none⟩ (.int .i64 e.ki)).setCell ⟨g, 5, none⟩ (.int .i64 e.tt)).setCell ⟨g, 6, none⟩ (.int .i64 e.ts)) (some g) := by
  refine ⟨?_, (((((((h.stored 0 (.int .i64 e.kt)).2.trans ((h.stored 0 (.int .i64 e.kt)).1.stored 1 (.int .i64 e.ks)).2).trans (((h.stored 0 (.int .i64 e.kt)).1.stored 1 (.int .i64 e.ks)).1.stored 2 (.int .i64 e.em)).2).trans ((((h.stored 0 (.int .i64 e.kt)).1.stored 1 (.int .i64 e.ks)).1.stored 2 (.int .i64 e.em)).1.stored 3 (.int .i64 e.ti)).2).trans (((((h.stored 0 (.int .i64 e.kt)).1.stored 1 (.int .i64 e.ks)).1.stored 2 (.int .i64 e.em)).1.stored 3 (.int .i64 e.ti)).1.stored 4 (.int .i64 e.ki)).2).trans ((((((h.stored 0 (.int .i64 e.kt)).1.stored 1 (.int .i64 e.ks)).1.stored 2 (.int .i64 e.em)).1.stored 3 (.int .i64 e.ti)).1.stored 4 (.int .i64 e.ki)).1.stored 5 (.int .i64 e.tt)).2).trans (((((((h.stored 0 (.int .i64 e.kt)).1.stored 1 (.int .i64 e.ks)).1.stored 2 (.int .i64 e.em)).1.stored 3 (.int .i64 e.ti)).1.stored 4 (.int .i64 e.ki)).1.stored 5 (.int .i64 e.tt)).1.stored 6 (.int .i64 e.ts)).2)⟩
  have s := (((((((h.stored 0 (.int .i64 e.kt)).1.stored 1 (.int .i64 e.ks)).1.stored 2 (.int .i64 e.em)).1.stored 3 (.int .i64 e.ti)).1.stored 4 (.int .i64 e.ki)).1.stored 5 (.int .i64 e.tt)).1.stored 6 (.int .i64 e.ts)).1
  have q : (e :: r).flatMap eE = ((((((((c :: r).flatMap eE).set 0 (.int .i64 e.kt)).set 1 (.int .i64 e.ks)).set 2 (.int .i64 e.em)).set 3 (.int .i64 e.ti)).set 4 (.int .i64 e.ki)).set 5 (.int .i64 e.tt)).set 6 (.int .i64 e.ts) := by
    simp [eE]
  rw [q]
  exact s
def SplR (b B : Nat) (v : Value) (w : World) (r : Ending) (w' : World) : Prop := ∃ es, r = .returned v ∧ ERw B v es w' ∧ TapeAt b w' ∧ Only2 b v.ownBlock w w'
set_option maxRecDepth 100000 in
set_option maxHeartbeats 4000000 in
theorem spoilt_any (b B : Nat) (v : Value) (es : List Ev) (w : World) (hr : ERw B v es w) (hT : TapeAt b w) (hb : b < B) (hl : es.length ≤ 100000) :
    Calls Try.prog 33 #[.pointer (some ⟨b, 0, none⟩), v] w (SplR b B v w) := by
  have FM : (∃ A C, v = .slice A 0 C ∧ es = []) ∨ ∃ g cap c r, v = .slice (some ⟨g, 0, none⟩) es.length cap ∧ es = c :: r ∧ B ≤ g ∧ g < w.heap.size := by
    rcases hr.2 with ⟨e, h0⟩ | ⟨g, cap, cur, e, h1, h2, _⟩
    · exact .inl ⟨none, 0, e, List.length_eq_zero_iff.1 h0⟩
    · cases es with
      | nil => exact .inl ⟨_, cap, e, rfl⟩
      | cons c r => exact .inr ⟨g, cap, c, r, e, rfl, h1, (Array.getElem?_eq_some_iff.1 h2).1⟩
  rcases FM with ⟨A, C, rfl, rfl⟩ | ⟨g, cap, c, r, rfl, rfl, hg, hgs⟩
  · have HR := Lib.hid hr
    clear hr
    go_enter Try.func33, Try.ntmps33
    go_wp2_with fail
    go_ret
    exact ⟨[], rfl, HR.out, hT, Only2.of (Only.refl _ _)⟩
  · generalize hN : (c :: r).length = N at *
    have hN0 : 0 < N := by rw [← hN]; simp
    have HN := Lib.hid hN
    have hr2 : w.ownsRow B 26 7 (.slice (some ⟨g, 0, none⟩) N cap) N ((c :: r).flatMap eE) := by have := hr; unfold ERw at this; rwa [hN] at this
    have HR := Lib.hid hr2
    have t0 : decide ((0 : Int) < (N : Int)) = true := decide_eq_true (by omega)
    have i1 : (0 : Int) < (N : Int) := by omega
    have hgb : g ≠ b := by omega
    have NX := Lib.hid (next_any b 8 (by omega) (by omega) w hT)
    clear hr hr2 hN hT
    go_enter Try.func33, Try.ntmps33
    go_wp2_with fail
    refine NX.out.mono ?_
    rintro e w1 ⟨q, rfl, q0, q1, T1, O1⟩
    have HT1 := Lib.hid T1
    have HO1 := Lib.hid O1
    have HR1 := Lib.hid (row_keep HR.out fun k hk => by injection hk with hk; subst hk; exact O1.block _ hgs hgb)
    clear T1 O1 NX HR
    by_cases q7 : q = 7
    · subst q7
      have SC := Lib.hid (spoil_any b c w1 HT1.out)
      have cl := HR1.out.cells (g := g) rfl
      obtain ⟨c0, c1, c2, c3, c4, c5, c6⟩ := c
      have k0 := cl 0 _ rfl
      have k1 := cl 1 _ rfl
      have k2 := cl 2 _ rfl
      have k3 := cl 3 _ rfl
      have k4 := cl 4 _ rfl
      have k5 := cl 5 _ rfl
      have k6 := cl 6 _ rfl
      rw [add_z] at k0 k1 k2 k3 k4 k5 k6
      unfold vE at SC
      simp only at SC k0 k1 k2 k3 k4 k5 k6
      clear cl
      go_wp2_with fail
      refine SC.out.mono ?_
      rintro e w3 ⟨ev, rfl, T3, O3⟩
      have HT3 := Lib.hid T3
      have HO3 := Lib.hid (HO1.out.trans O3)
      have HR3 := Lib.hid (row_keep HR1.out fun k hk => by injection hk with hk; subst hk; exact O3.block _ (Nat.lt_of_lt_of_le hgs HO1.out.size) hgb)
      clear T3 O3 SC HO1 HT1 k0 k1 k2 k3 k4 k5 k6
      have cl := HR3.out.cells (g := g) rfl
      have k0 := cl 0 _ rfl
      have k1 := cl 1 _ rfl
      have k2 := cl 2 _ rfl
      have k3 := cl 3 _ rfl
      have k4 := cl 4 _ rfl
      have k5 := cl 5 _ rfl
      have k6 := cl 6 _ rfl
      rw [add_z] at k0 k1 k2 k3 k4 k5 k6
      simp only at k0 k1 k2 k3 k4 k5 k6
      clear cl HR1
      have f0 := HR3.out.frozenAt 0
      have f1 := HR3.out.frozenAt 1
      have f2 := HR3.out.frozenAt 2
      have f3 := HR3.out.frozenAt 3
      have f4 := HR3.out.frozenAt 4
      have f5 := HR3.out.frozenAt 5
      have f6 := HR3.out.frozenAt 6
      obtain ⟨n0, n1, n2, n3, n4, n5, n6⟩ := ev
      have PUT := Lib.hid (row0_put (e := ⟨n0, n1, n2, n3, n4, n5, n6⟩) HR3.out)
      unfold vE
      simp only at PUT ⊢
      go_wp2_with fail
      go_ret
      refine ⟨⟨n0, n1, n2, n3, n4, n5, n6⟩ :: r, rfl, ?_, tape_grown HT3.out PUT.out.2 (fun k hk => by injection hk with hk; omega) hb, (Only2.of HO3.out).grown PUT.out.2⟩
      have := PUT.out.1
      unfold ERw
      rw [show ((⟨n0, n1, n2, n3, n4, n5, n6⟩ : Ev) :: r).length = N by rw [← HN.out]; rfl]
      exact this
    · have t7 : decide (q = 7) = false := decide_eq_false q7
      go_wp2_with fail
      go_ret
      refine ⟨c :: r, rfl, ?_, HT1.out, Only2.of HO1.out⟩
      unfold ERw
      rw [HN.out]
      exact HR1.out
end Go.Proofs.Ytebdldinlodgpaa.Ib
