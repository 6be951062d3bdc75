/-
  Layer 6 (timeline): rows of slices; the contract of the reference's Slices. Condition: the list reads as changes.
-/
import Derived.Test.YtdpgmjmmnjbbiaaPrVe
namespace Go.Proofs.Ytdpgmjmmnjbbiaa.Tl
open Go Go.RowKit Go.Lib Go.Sort Go.Shelf Go.Proofs Go.Proofs.Ytdpgmjmmnjbbiaa Go.Proofs.Ytdpgmjmmnjbbiaa.Tp
set_option linter.unusedVariables false


/-! ## Rows of slices -/
def fl3 (l : List Slc) : List Value := l.flatMap fun s => [.int .i64 s.fr, .int .i64 s.to, .int .i64 s.va]
theorem fl3_len : ∀ l : List Slc, (fl3 l).length = l.length * 3
  | [] => rfl
  | c :: r => by
    have := fl3_len r
    unfold fl3 at *
    rw [List.flatMap_cons, List.length_append, this]
    simp; omega
theorem fl3_app (l m : List Slc) : fl3 (l ++ m) = fl3 l ++ fl3 m := List.flatMap_append
theorem fl3_at : ∀ (l : List Slc) (i : Nat), i < l.length → (fl3 l)[i * 3]? = some (.int .i64 l[i]!.fr) ∧ (fl3 l)[i * 3 + 1]? = some (.int .i64 l[i]!.to) ∧ (fl3 l)[i * 3 + 2]? = some (.int .i64 l[i]!.va)
  | [], i, h => by simp at h
  | x :: l, 0, _ => by simp [fl3]
  | x :: l, i + 1, h => by
    have := fl3_at l i (by simpa using h)
    rw [show (i + 1) * 3 = i * 3 + 3 by omega]
    simpa [fl3] using this
theorem infoSl : (Try.prog.info? 54).map (fun i => (i.zero, i.size, i.bytes)) = some (some (.agg #[.int .i64 0, .int .i64 0, .int .i64 0]), 3, 24) := by kernel_rfl
theorem info3 : ∃ i0 : TypeInfo, Try.prog.info? 54 = some i0 ∧ i0.zero = some (.agg #[.int .i64 0, .int .i64 0, .int .i64 0]) ∧ i0.size = 3 ∧ i0.bytes = 24 := by
  obtain ⟨i0, hi, hz0, hz1, hz2⟩ := info_parts infoSl
  exact ⟨i0, hi, hz0, hz1, hz2⟩
structure SlcG (w0 : World) (v : Value) (l : List Slc) (W : World) : Prop where
  row : W.ownsRow w0.heap.size 54 3 v l.length (fl3 l)
  below : Below w0.heap.size w0 W
theorem SlcG.nil (w : World) : SlcG w (.slice none 0 0) [] w := ⟨World.ownsRow_nil _ _ _ _, Below.refl _ _⟩
theorem SlcG.more {w0 W W' : World} {v : Value} {l : List Slc} (h : SlcG w0 v l W) (hb : Below W.heap.size W W') : SlcG w0 v l W' := by
  refine ⟨⟨h.row.1, ?_⟩, h.below.trans (hb.mono h.below.size)⟩
  rcases h.row.2 with h0 | ⟨g, cap, cur, e, h1, h2, h3⟩
  · exact .inl h0
  · exact .inr ⟨g, cap, cur, e, h1, (hb.block g (Array.getElem?_eq_some_iff.1 h2).1).trans h2, h3⟩
theorem SlcG.grown {w0 W W' : World} {v v' : Value} {l : List Slc} {s : Slc} (h : SlcG w0 v l W) (ho : W'.ownsRow w0.heap.size 54 3 v' (l.length + 1) (fl3 l ++ [.int .i64 s.fr, .int .i64 s.to, .int .i64 s.va])) (hg : W.grownBy W' v.ownBlock) : SlcG w0 v' (l ++ [s]) W' :=
  ⟨by rw [List.length_append, fl3_app]; simpa [fl3] using ho, h.below.grown hg h.below.size fun g hg' => (h.row.lt g hg').1⟩
/-- The row while it holds something: its block, its last element. -/
theorem SlcG.last {w0 W : World} {v : Value} {pre : List Slc} {s : Slc} (h : SlcG w0 v (pre ++ [s]) W) :
    ∃ g cap, v = .slice (some ⟨g, 0, none⟩) (pre.length + 1) cap ∧ pre.length + 1 ≤ 9223372036854775807 ∧ w0.heap.size ≤ g ∧ g < W.heap.size ∧ W.cell? ⟨g, pre.length * 3 + 1, none⟩ = some (.int .i64 s.to) ∧ W.cell? ⟨g, pre.length * 3 + 2, none⟩ = some (.int .i64 s.va) ∧ W.frozen? ⟨g, pre.length * 3 + 1, none⟩ = false ∧
      ∀ b, SlcG w0 v (pre ++ [⟨s.fr, b, s.va⟩]) (W.setCell ⟨g, pre.length * 3 + 1, none⟩ (.int .i64 b)) := by
  have hr := h.row
  have hlen : (pre ++ [s]).length = pre.length + 1 := by simp
  rw [hlen] at hr
  rcases hr.2 with ⟨_, h0⟩ | ⟨g, cap, cur, rfl, hb, hg, hnc, hcm, hcs, htk⟩
  · omega
  · have a := fl3_at (pre ++ [s]) pre.length (by simp)
    have e : (pre ++ [s])[pre.length]! = s := by simp
    rw [e] at a
    have c := hr.cells (g := g) rfl _ _ a.2.1
    have c2 := hr.cells (g := g) rfl _ _ a.2.2
    rw [add_z] at c c2
    have hgl := (Array.getElem?_eq_some_iff.1 hg).1
    refine ⟨g, cap, rfl, (by unfold maxLen at hcm; omega), hb, hgl, c, c2, hr.frozenAt _, fun b => ⟨?_, ?_⟩⟩
    · have st := (hr.stored (pre.length * 3 + 1) (.int .i64 b)).1
      have e2 : (fl3 (pre ++ [s])).set (pre.length * 3 + 1) (.int .i64 b) = fl3 (pre ++ [⟨s.fr, b, s.va⟩]) := by
        rw [fl3_app, fl3_app, List.set_append_right _ _ (by rw [fl3_len]; omega), fl3_len]
        congr 1
        rw [show pre.length * 3 + 1 - pre.length * 3 = 1 by omega]
        rfl
      rw [e2] at st
      have hlen2 : (pre ++ [(⟨s.fr, b, s.va⟩ : Slc)]).length = pre.length + 1 := by simp
      rw [hlen2]
      exact st
    · refine ⟨h.below.os, h.below.tape, h.below.output, by simpa [World.setCell] using h.below.size, fun k hk => (Below.heap_setCell W _ _ k (by simp; omega)).trans (h.below.block k hk)⟩
/-- What Slices leaves. -/
def RowS (l : List Slc) (w : World) (a : Option Addr) (w' : World) : Prop := 0 < l.length → ∃ g, a = some ⟨g, 0, none⟩ ∧ w.heap.size ≤ g ∧ g < w'.heap.size ∧ ∀ i, i < l.length → w'.cell? ⟨g, i * 3, none⟩ = some (.int .i64 l[i]!.fr) ∧ w'.cell? ⟨g, i * 3 + 1, none⟩ = some (.int .i64 l[i]!.to) ∧ w'.cell? ⟨g, i * 3 + 2, none⟩ = some (.int .i64 l[i]!.va)
theorem SlcG.done {w0 W : World} {v : Value} {l : List Slc} (h : SlcG w0 v l W) : ∃ a cap, v = .slice a l.length cap ∧ RowS l w0 a W := by
  rcases h.row.2 with ⟨rfl, h0⟩ | ⟨g, cap, cur, rfl, hb, hg, hnc, hcm, hcs, htk⟩
  · exact ⟨none, 0, by rw [h0], fun h1 => by omega⟩
  · refine ⟨_, cap, rfl, fun _ => ⟨g, rfl, hb, (Array.getElem?_eq_some_iff.1 hg).1, fun i hi => ?_⟩⟩
    have a := fl3_at l i hi
    have c0 := h.row.cells (g := g) rfl _ _ a.1
    have c1 := h.row.cells (g := g) rfl _ _ a.2.1
    have c2 := h.row.cells (g := g) rfl _ _ a.2.2
    rw [add_z] at c0 c1 c2
    exact ⟨c0, c1, c2⟩
def slcA (cs : List Chg) (k fr td : Int) : List Slc := if chkE cs fr td = 0 then slcL cs k fr td else []
def SlsR (cs : List Chg) (k fr td : Int) (w : World) (e : Ending) (w' : World) : Prop := ∃ x cap, e = .returned (.tuple #[.slice x (slcA cs k fr td).length cap, .int .i64 (chkE cs fr td)]) ∧ RowS (slcA cs k fr td) w x w' ∧ Below w.heap.size w w'
theorem sls_bad {cs : List Chg} {k fr td c : Int} {w w' : World} (hc : c ≠ 0) (h : chkE cs fr td = c) (hb : Below w.heap.size w w') : SlsR cs k fr td w (.returned (.tuple #[.slice none 0 0, .int .i64 c])) w' := by
  have e : slcA cs k fr td = [] := if_neg (by rw [h]; exact hc)
  exact ⟨none, 0, by rw [e, h]; rfl, by rw [e]; exact fun h => absurd h (by decide), hb⟩
set_option maxRecDepth 100000 in
set_option maxHeartbeats 16000000 in
theorem rslc_ok (a : Option Addr) (n cap : Nat) (cs : List Chg) (kk fr td : Int) (w : World) (h : Lst w a n cap cs) (hok : chkE cs fr td = 0) :
    Calls Try.prog 20 #[.slice a n cap, .int .i64 kk, .int .i64 fr, .int .i64 td] w (SlsR cs kk fr td w) := by
  have CK := Lib.hid (rchk_any a n cap cs fr td w h)
  rw [hok] at CK
  have H := Lib.hid h
  obtain ⟨v0, f0, ft, t1⟩ := chkE_ok hok
  have n2 : n ≤ 1024 := by rw [← h.1.1]; exact (valE_ok v0).1
  have EC := Lib.hid hok
  obtain ⟨i0, hi0, hz0, hz1, hz2⟩ := info3
  have HQ := Lib.hid (And.intro hi0 (And.intro hz0 (And.intro hz1 hz2)))
  clear hi0 hz0 hz1 hz2
  clear h hok v0
  go_enter Try.func20, Try.ntmps20
  go_wp2_with fail
  refine CK.out.mono ?_
  rintro e w1 ⟨rfl, b1⟩
  have H1 := Lib.hid (H.out.more b1)
  have B1 := Lib.hid b1
  clear b1 H CK
  go_wp2_with fail
  refine (rin_any a n cap cs kk n2 w1 H1.out).mono ?_
  rintro e wS ⟨x1, c1, rfl, r1, b2⟩
  have BS := Lib.hid (B1.out.trans (b2.mono B1.out.size))
  have m1 : (inL cs kk).length ≤ 1024 := by have := inL_length cs kk; have := H1.out.1.1; omega
  have LX := Lib.hid (r1.lst (by omega))
  clear r1 b2 H1 B1
  generalize (inL cs kk).length = n1 at *
  have EA := Lib.hid (show slcA cs kk fr td = days (valL cs kk) [] fr (td + 1 - fr).toNat from if_pos EC.out)
  go_wp2_with fail
  go_loopw [12, 13] (fun v z wr => ∃ (m : Nat) (dy : Int), z = .int .i64 dy ∧ dy = fr + m ∧ dy ≤ td + 1 ∧ Hid (SlcG wS v (days (valL cs kk) [] fr m) wr)) (fun _ z _ => (td + 1 - intOf z).toNat)
  case atStart => exact ⟨0, fr, rfl, by omega, by omega, Lib.hid (SlcG.nil wS)⟩
  case round =>
    obtain ⟨m, dy, rfl, hdy, hd1, HI⟩ := hrel
    by_cases hlt : dy ≤ td
    · have t0 : decide (dy ≤ td) = true := decide_eq_true hlt
      have C1 := Lib.hid (fun W (hb : Below wS.heap.size wS W) => rvalue_any x1 n1 c1 (inL cs kk) dy (by omega) W (LX.out.more hb).1)
      have N1 := Lib.hid (fun W (hb : Below wS.heap.size wS W) => rnext_any x1 n1 c1 (inL cs kk) dy td (by omega) t1 (by omega) W (LX.out.more hb).1)
      rw [show valF dy none (inL cs kk) = valL cs kk dy from rfl] at C1
      have g1 := nextF_gt dy (inL cs kk) (td + 1) (by omega)
      have g3 := nextF_le dy (inL cs kk) (td + 1)
      have NE1 := Lib.hid (fun d A h1 h2 hA => valF_next (d := dy) (d' := d) (td := td) (A := A) (l := inL cs kk) h1 h2 hA)
      unfold ErrR at N1
      generalize nextF dy (td + 1) (inL cs kk) = A at *
      have ST := Lib.hid (days_next (valL cs kk) fr dy A m hdy g1 (fun d h1 h2 => by
        unfold valL
        rw [NE1.out d A h1 h2 (Int.le_refl _)]))
      have ol : (days (valL cs kk) [] fr m).length ≤ 100000 := by
        have := days_len (valL cs kk) m [] fr
        have e : ([] : List Slc).length = 0 := rfl
        omega
      have HM : Hid (A = fr + ((m + (A - dy).toNat : Nat) : Int)) := Lib.hid (by omega)
      have dy0 : 0 ≤ dy := by omega
      clear NE1 hdy
      generalize valL cs kk dy = x at *
      unfold ValR at C1
      generalize hO : days (valL cs kk) [] fr m = out at *
      generalize hO' : days (valL cs kk) [] fr (m + (A - dy).toNat) = out' at *
      have HO' := Lib.hid hO'
      clear hO hO'
      have wc : IntKind.i64.wrap (dy - 1) = dy - 1 := by rw [IntKind.wrap_i64]; omega
      have wA : IntKind.i64.wrap (A - 1) = A - 1 := by rw [IntKind.wrap_i64]; omega
      have BI := Lib.hid HI.out.below
      cases x with
      | none =>
        have E7 := Lib.hid (show out' = out from ST.out)
        clear ST
        go_wp2_with fail
        refine (C1.out wr BI.out).mono ?_
        rintro e w4 ⟨rfl, b4⟩
        have HI4 := Lib.hid (HI.out.more b4)
        clear b4 HI BI C1
        go_wp2_with fail
        refine (N1.out w4 HI4.out.below).mono ?_
        rintro e w6 ⟨rfl, b6⟩
        have HI7 := Lib.hid (HI4.out.more b6)
        clear b6 HI4
        obtain ⟨aa, cc, hvn, _⟩ := HI7.out.done
        subst hvn
        go_wp2_with fail
        refine (N1.out w6 HI7.out.below).mono ?_
        rintro e w9 ⟨rfl, b9⟩
        have HIz := Lib.hid (HI7.out.more b9)
        clear b9
        go_wp2_with fail
        go_roundw
        case rel => exact ⟨m + (A - dy).toNat, A, by go_num, HM.out, g3, by rw [HO'.out, E7.out]; exact HIz⟩
        case measure => simp [intOf]; omega
      | some v =>
        have ST2 := Lib.hid (show out' = blk out dy (A - 1) v from ST.out)
        clear ST
        go_wp2_with fail
        refine (C1.out wr BI.out).mono ?_
        rintro e w4 ⟨rfl, b4⟩
        have HI4 := Lib.hid (HI.out.more b4)
        clear b4 HI BI C1
        go_wp2_with fail
        refine (N1.out w4 HI4.out.below).mono ?_
        rintro e w7 ⟨rfl, b6⟩
        have HI7 := Lib.hid (HI4.out.more b6)
        clear b6 HI4
        rcases split_last out with ho | ⟨pre, s, ho⟩
        · obtain ⟨aa, cc, hvn⟩ : ∃ aa cc, u12 = .slice aa 0 cc := by
            obtain ⟨aa, cc, e, _⟩ := HI7.out.done
            exact ⟨aa, cc, by rw [e, ho]; rfl⟩
          subst hvn
          have O0 : out.length = 0 := by rw [ho]; rfl
          have E7 := Lib.hid (show out' = out ++ [⟨dy, A - 1, v⟩] by rw [ST2.out, ho]; exact blk_nil _ _ _)
          clear ST2
          have HI9 := Lib.hid (HI7.out.more ((Below.refl w7.heap.size w7).alloc (Nat.le_refl _) (.cells #[.int .i64 dy, .int .i64 (A - 1), .int .i64 v] 54)))
          go_wp2_with (at_builtin; refine wpList_append_own _ rfl _ _ 46 rfl wS.heap.size 54 i0 (.agg #[.int .i64 0, .int .i64 0, .int .i64 0]) 3 24 Try.underlying46 HQ.out.1 HQ.out.2.1 HQ.out.2.2.1 HQ.out.2.2.2 rfl (by decide) _ _ _ rfl HI9.out.row ⟨w7.heap.size, 0, none⟩ 1 1 [.int .i64 dy, .int .i64 (A - 1), .int .i64 v] rfl rfl ?k5_1 ?k5_2 ?k5_3 ?k5_4 ?k5_5 ?_)
          case k5_1 =>
            intro j x hx
            rcases j with _ | _ | _ | j
            · have e : x = .int .i64 dy := by simpa using hx.symm
              subst e; go_simp
            · have e : x = .int .i64 (A - 1) := by simpa using hx.symm
              subst e; go_simp
            · have e : x = .int .i64 v := by simpa using hx.symm
              subst e; go_simp
            · simp at hx
          case k5_2 => intro x hx; simp at hx; rcases hx with rfl | rfl | rfl <;> rfl
          case k5_3 => unfold maxLen; first | omega | (simp; omega)
          case k5_4 => first | omega | (simp; omega)
          case k5_5 => exact HI9.out.below.size
          intro v9 w9 hown hgrow _
          have HIa := Lib.hid (HI9.out.grown (s := ⟨dy, A - 1, v⟩) (by simpa [ho] using hown) hgrow)
          clear hown hgrow HI9
          go_wp2_with fail
          refine (N1.out _ HIa.out.below).mono ?_
          rintro e wz ⟨rfl, bz⟩
          have HIz := Lib.hid (HIa.out.more bz)
          clear bz
          go_wp2_with fail
          go_roundw
          case rel => exact ⟨m + (A - dy).toNat, A, by go_num, HM.out, g3, by rw [HO'.out, E7.out]; exact HIz⟩
          case measure => simp [intOf]; omega
        · have HI8 := HI7
          rw [ho] at HI8
          obtain ⟨gg, cc, hvn, hcc, _, hgg, zc, zv, zf, hset⟩ := HI8.out.last
          subst hvn
          have HS := Lib.hid hset
          clear hset HI8
          by_cases hsv : s.va = v
          · have tv : (s.va == v) = true := by simpa using hsv
            by_cases hst : s.to = dy - 1
            · have E7 := Lib.hid (show out' = pre ++ [⟨s.fr, A - 1, s.va⟩] by rw [ST2.out, ho, hsv]; exact blk_join pre s _ _ _ ⟨hsv, hst⟩)
              have tt : (s.to == dy - 1) = true := by simpa using hst
              clear ST2 hst ho hsv
              generalize s.to = st at *
              generalize s.va = sva at *
              have wd : IntKind.i64.wrap (((pre.length + 1 : Nat) : Int) - 1) = (pre.length : Int) := by rw [IntKind.wrap_i64]; omega
              have wd2 : ((pre.length + 1 : Nat) : Int) - 1 = (pre.length : Int) := by omega
              have wd3 : IntKind.i64.wrap (pre.length : Int) = (pre.length : Int) := by rw [IntKind.wrap_i64]; omega
              have td0 : decide ((0 : Int) < ((pre.length + 1 : Nat) : Int)) = true := decide_eq_true (by omega)
              have dm0 : (0 : Int) ≤ (pre.length : Int) := by omega
              have dm : (pre.length : Int) < ((pre.length + 1 : Nat) : Int) := by omega
              generalize hm9 : pre.length + 1 = L1 at *
              generalize pre.length = L0 at *
              clear hm9
              go_wp2_with fail
              have HIs := Lib.hid (HS.out (A - 1))
              refine (N1.out _ HIs.out.below).mono ?_
              rintro e w9 ⟨rfl, b9⟩
              have HIz := Lib.hid (HIs.out.more b9)
              clear b9
              go_wp2_with fail
              go_roundw
              case rel => exact ⟨m + (A - dy).toNat, A, by go_num, HM.out, g3, by rw [HO'.out, E7.out]; exact HIz⟩
              case measure => simp [intOf]; omega
            · have E7 := Lib.hid (show out' = out ++ [⟨dy, A - 1, v⟩] by rw [ST2.out, ho]; exact blk_new pre s _ _ _ (fun h => hst h.2))
              have tt : (s.to == dy - 1) = false := by simpa using hst
              clear ST2 hst HS hsv
              generalize s.to = st at *
              generalize s.va = sva at *
              have O0 : out.length = pre.length + 1 := by rw [ho]; simp
              have wd : IntKind.i64.wrap (((pre.length + 1 : Nat) : Int) - 1) = (pre.length : Int) := by rw [IntKind.wrap_i64]; omega
              have wd2 : ((pre.length + 1 : Nat) : Int) - 1 = (pre.length : Int) := by omega
              have wd3 : IntKind.i64.wrap (pre.length : Int) = (pre.length : Int) := by rw [IntKind.wrap_i64]; omega
              have td0 : decide ((0 : Int) < ((pre.length + 1 : Nat) : Int)) = true := decide_eq_true (by omega)
              have dm0 : (0 : Int) ≤ (pre.length : Int) := by omega
              have dm : (pre.length : Int) < ((pre.length + 1 : Nat) : Int) := by omega
              generalize hm9 : pre.length + 1 = L1 at *
              generalize pre.length = L0 at *
              clear hm9
              have HI9 := Lib.hid (HI7.out.more ((Below.refl w7.heap.size w7).alloc (Nat.le_refl _) (.cells #[.int .i64 dy, .int .i64 (A - 1), .int .i64 v] 54)))
              go_wp2_with (at_builtin; refine wpList_append_own _ rfl _ _ 46 rfl wS.heap.size 54 i0 (.agg #[.int .i64 0, .int .i64 0, .int .i64 0]) 3 24 Try.underlying46 HQ.out.1 HQ.out.2.1 HQ.out.2.2.1 HQ.out.2.2.2 rfl (by decide) _ _ _ rfl HI9.out.row ⟨w7.heap.size, 0, none⟩ 1 1 [.int .i64 dy, .int .i64 (A - 1), .int .i64 v] rfl rfl ?k6_1 ?k6_2 ?k6_3 ?k6_4 ?k6_5 ?_)
              case k6_1 =>
                intro j x hx
                rcases j with _ | _ | _ | j
                · have e : x = .int .i64 dy := by simpa using hx.symm
                  subst e; go_simp
                · have e : x = .int .i64 (A - 1) := by simpa using hx.symm
                  subst e; go_simp
                · have e : x = .int .i64 v := by simpa using hx.symm
                  subst e; go_simp
                · simp at hx
              case k6_2 => intro x hx; simp at hx; rcases hx with rfl | rfl | rfl <;> rfl
              case k6_3 => unfold maxLen; first | omega | (simp; omega)
              case k6_4 => first | omega | (simp; omega)
              case k6_5 => exact HI9.out.below.size
              intro v9 w9 hown hgrow _
              have HIa := Lib.hid (HI9.out.grown (s := ⟨dy, A - 1, v⟩) (by simpa [ho] using hown) hgrow)
              clear hown hgrow HI9
              go_wp2_with fail
              refine (N1.out _ HIa.out.below).mono ?_
              rintro e wz ⟨rfl, bz⟩
              have HIz := Lib.hid (HIa.out.more bz)
              clear bz
              go_wp2_with fail
              go_roundw
              case rel => exact ⟨m + (A - dy).toNat, A, by go_num, HM.out, g3, by rw [HO'.out, E7.out]; exact HIz⟩
              case measure => simp [intOf]; omega
          · have E7 := Lib.hid (show out' = out ++ [⟨dy, A - 1, v⟩] by rw [ST2.out, ho]; exact blk_new pre s _ _ _ (fun h => hsv h.1))
            have tv : (s.va == v) = false := by simpa using hsv
            clear ST2 HS hsv
            generalize s.to = st at *
            generalize s.va = sva at *
            have O0 : out.length = pre.length + 1 := by rw [ho]; simp
            have wd : IntKind.i64.wrap (((pre.length + 1 : Nat) : Int) - 1) = (pre.length : Int) := by rw [IntKind.wrap_i64]; omega
            have wd2 : ((pre.length + 1 : Nat) : Int) - 1 = (pre.length : Int) := by omega
            have wd3 : IntKind.i64.wrap (pre.length : Int) = (pre.length : Int) := by rw [IntKind.wrap_i64]; omega
            have td0 : decide ((0 : Int) < ((pre.length + 1 : Nat) : Int)) = true := decide_eq_true (by omega)
            have dm0 : (0 : Int) ≤ (pre.length : Int) := by omega
            have dm : (pre.length : Int) < ((pre.length + 1 : Nat) : Int) := by omega
            generalize hm9 : pre.length + 1 = L1 at *
            generalize pre.length = L0 at *
            clear hm9
            have HI9 := Lib.hid (HI7.out.more ((Below.refl w7.heap.size w7).alloc (Nat.le_refl _) (.cells #[.int .i64 dy, .int .i64 (A - 1), .int .i64 v] 54)))
            go_wp2_with (at_builtin; refine wpList_append_own _ rfl _ _ 46 rfl wS.heap.size 54 i0 (.agg #[.int .i64 0, .int .i64 0, .int .i64 0]) 3 24 Try.underlying46 HQ.out.1 HQ.out.2.1 HQ.out.2.2.1 HQ.out.2.2.2 rfl (by decide) _ _ _ rfl HI9.out.row ⟨w7.heap.size, 0, none⟩ 1 1 [.int .i64 dy, .int .i64 (A - 1), .int .i64 v] rfl rfl ?k7_1 ?k7_2 ?k7_3 ?k7_4 ?k7_5 ?_)
            case k7_1 =>
              intro j x hx
              rcases j with _ | _ | _ | j
              · have e : x = .int .i64 dy := by simpa using hx.symm
                subst e; go_simp
              · have e : x = .int .i64 (A - 1) := by simpa using hx.symm
                subst e; go_simp
              · have e : x = .int .i64 v := by simpa using hx.symm
                subst e; go_simp
              · simp at hx
            case k7_2 => intro x hx; simp at hx; rcases hx with rfl | rfl | rfl <;> rfl
            case k7_3 => unfold maxLen; first | omega | (simp; omega)
            case k7_4 => first | omega | (simp; omega)
            case k7_5 => exact HI9.out.below.size
            intro v9 w9 hown hgrow _
            have HIa := Lib.hid (HI9.out.grown (s := ⟨dy, A - 1, v⟩) (by simpa [ho] using hown) hgrow)
            clear hown hgrow HI9
            go_wp2_with fail
            refine (N1.out _ HIa.out.below).mono ?_
            rintro e wz ⟨rfl, bz⟩
            have HIz := Lib.hid (HIa.out.more bz)
            clear bz
            go_wp2_with fail
            go_roundw
            case rel => exact ⟨m + (A - dy).toNat, A, by go_num, HM.out, g3, by rw [HO'.out, E7.out]; exact HIz⟩
            case measure => simp [intOf]; omega
    · have t0 : decide (dy ≤ td) = false := decide_eq_false hlt
      obtain ⟨x9, c9, hv9, hrow⟩ := HI.out.done
      subst hv9
      have HRW := Lib.hid hrow
      have EB := Lib.hid (show slcA cs kk fr td = days (valL cs kk) [] fr m by rw [EA.out, show (td + 1 - fr).toNat = m by omega])
      have BI := Lib.hid HI.out.below
      clear hrow EA hdy HI
      go_wp2
      go_ret2
      refine ⟨x9, c9, by rw [EB.out, EC.out]; rfl, fun h0 => ?_, BS.out.trans (BI.out.mono BS.out.size)⟩
      rw [EB.out] at h0
      obtain ⟨g9, e1, e2, e3, e4⟩ := HRW.out h0
      exact ⟨g9, e1, Nat.le_trans BS.out.size e2, e3, by rw [EB.out]; exact e4⟩
set_option maxRecDepth 100000 in
set_option maxHeartbeats 2000000 in
theorem rslc_any (a : Option Addr) (n cap : Nat) (cs : List Chg) (kk fr td : Int) (w : World) (h : Lst w a n cap cs) :
    Calls Try.prog 20 #[.slice a n cap, .int .i64 kk, .int .i64 fr, .int .i64 td] w (SlsR cs kk fr td w) := by
  by_cases hok : chkE cs fr td = 0
  · exact rslc_ok a n cap cs kk fr td w h hok
  · have CK := Lib.hid (rchk_any a n cap cs fr td w h)
    have HE : Hid (∀ w' : World, Below w.heap.size w w' → SlsR cs kk fr td w (.returned (.tuple #[.slice none 0 0, .int .i64 (chkE cs fr td)])) w') := Lib.hid fun w' hb => sls_bad hok rfl hb
    have t0 : (chkE cs fr td != 0) = true := by simpa using hok
    clear h hok
    generalize chkE cs fr td = c at *
    go_enter Try.func20, Try.ntmps20
    go_wp2_with fail
    refine CK.out.mono ?_
    rintro e w1 ⟨rfl, b1⟩
    have B1 := Lib.hid b1
    clear b1 CK
    go_wp2_with fail
    go_ret2
    exact HE.out _ B1.out
end Go.Proofs.Ytdpgmjmmnjbbiaa.Tl
