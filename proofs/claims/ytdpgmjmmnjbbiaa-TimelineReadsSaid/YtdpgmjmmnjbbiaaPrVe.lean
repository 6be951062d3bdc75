/-
  Layer 6 (timeline): the contract of the reference's Diff. Condition: the list reads as changes.
-/
import Derived.Test.YtdpgmjmmnjbbiaaPrVd
namespace Go.Proofs.Ytdpgmjmmnjbbiaa.Tl
open Go Go.RowKit Go.Lib Go.Sort Go.Shelf Go.Proofs Go.Proofs.Ytdpgmjmmnjbbiaa Go.Proofs.Ytdpgmjmmnjbbiaa.Tp
set_option linter.unusedVariables false

theorem valF_next {d d' td A : Int} {l : List Chg} (h1 : d ≤ d') (h2 : d' < A) (hA : A ≤ nextF d (td + 1) l) : valF d' none l = valF d none l :=
  valF_same h1 l none fun c hc h => nextF_none d l (td + 1) c hc ⟨h.1, by omega⟩
/-- The days from dy to A are of one kind. -/
theorem days_next (f : Int → Option Int) (fr dy A : Int) (m : Nat) (hd : dy = fr + m) (hA : dy < A) (hf : ∀ d, dy ≤ d → d < A → f d = f dy) :
    days f [] fr (m + (A - dy).toNat) = match f dy with | none => days f [] fr m | some v => blk (days f [] fr m) dy (A - 1) v := by
  rw [days_add, ← hd, days_const f _ _ _ (by omega) (fun d h1 h2 => hf d h1 (by omega)), show dy + ((A - dy).toNat : Int) - 1 = A - 1 by omega]
  cases f dy <;> rfl
set_option maxRecDepth 100000 in
set_option maxHeartbeats 16000000 in
theorem rdiff_ok (a : Option Addr) (n cap : Nat) (cs : List Chg) (ka kb fr td : Int) (w : World) (h : Lst w a n cap cs) (hok : chkE cs fr td = 0) :
    Calls Try.prog 22 #[.slice a n cap, .int .i64 ka, .int .i64 kb, .int .i64 fr, .int .i64 td] w (DifR cs ka kb fr td w) := by
  have CK := Lib.hid (rchk_any a n cap cs fr td w h)
  rw [hok] at CK
  have H := Lib.hid h
  obtain ⟨v0, f0, ft, t1⟩ := chkE_ok hok
  have n2 : n ≤ 1024 := by rw [← h.1.1]; exact (valE_ok v0).1
  have EC := Lib.hid hok
  obtain ⟨i0, hi0, hz0, hz1, hz2⟩ := info2
  have HQ := Lib.hid (And.intro hi0 (And.intro hz0 (And.intro hz1 hz2)))
  clear hi0 hz0 hz1 hz2
  clear h hok v0
  go_enter Try.func22, Try.ntmps22
  go_wp2_with fail
  refine CK.out.mono ?_
  rintro e w1 ⟨rfl, b1⟩
  have H1 := Lib.hid (H.out.more b1)
  have B1 := Lib.hid b1
  clear b1 H CK
  go_wp2_with fail
  refine (rin_any a n cap cs ka n2 w1 H1.out).mono ?_
  rintro e w2 ⟨x1, c1, rfl, r1, b2⟩
  have H2 := Lib.hid (H1.out.more b2)
  have B2 := Lib.hid (B1.out.trans (b2.mono B1.out.size))
  have m1 : (inL cs ka).length ≤ 1024 := by have := inL_length cs ka; have := H1.out.1.1; omega
  have L1 := Lib.hid (r1.lst (by omega))
  clear r1 b2 H1 B1
  generalize (inL cs ka).length = n1 at *
  go_wp2_with fail
  refine (rin_any a n cap cs kb n2 w2 H2.out).mono ?_
  rintro e wS ⟨x2, c2, rfl, r2, b3⟩
  have BS := Lib.hid (B2.out.trans (b3.mono B2.out.size))
  have LX := Lib.hid (L1.out.more b3)
  have m2 : (inL cs kb).length ≤ 1024 := by have := inL_length cs kb; have := H2.out.1.1; omega
  have LY := Lib.hid (r2.lst (by omega))
  clear r2 b3 H2 B2 L1
  generalize (inL cs kb).length = n2' at *
  have EA := Lib.hid (show difA cs ka kb fr td = days (difV cs ka kb) [] fr (td + 1 - fr).toNat from if_pos EC.out)
  go_wp2_with fail
  go_loopw [15, 16] (fun v z wr => ∃ (m : Nat) (dy : Int), z = .int .i64 dy ∧ dy = fr + m ∧ dy ≤ td + 1 ∧ Hid (RngG wS v (days (difV cs ka kb) [] fr m) wr)) (fun _ z _ => (td + 1 - intOf z).toNat)
  case atStart => exact ⟨0, fr, rfl, by omega, by omega, Lib.hid (RngG.nil wS)⟩
  case round =>
    obtain ⟨m, dy, rfl, hdy, hd1, HI⟩ := hrel
    by_cases hlt : dy ≤ td
    · have t0 : decide (dy ≤ td) = true := decide_eq_true hlt
      have C1 := Lib.hid (fun W (hb : Below wS.heap.size wS W) => rvalue_any x1 n1 c1 (inL cs ka) dy (by omega) W (LX.out.more hb).1)
      have C2 := Lib.hid (fun W (hb : Below wS.heap.size wS W) => rvalue_any x2 n2' c2 (inL cs kb) dy (by omega) W (LY.out.more hb).1)
      have N1 := Lib.hid (fun W (hb : Below wS.heap.size wS W) => rnext_any x1 n1 c1 (inL cs ka) dy td (by omega) t1 (by omega) W (LX.out.more hb).1)
      have N2 := Lib.hid (fun W (hb : Below wS.heap.size wS W) => rnext_any x2 n2' c2 (inL cs kb) dy td (by omega) t1 (by omega) W (LY.out.more hb).1)
      rw [show valF dy none (inL cs ka) = valL cs ka dy from rfl] at C1
      rw [show valF dy none (inL cs kb) = valL cs kb dy from rfl] at C2
      have g1 := nextF_gt dy (inL cs ka) (td + 1) (by omega)
      have g2 := nextF_gt dy (inL cs kb) (td + 1) (by omega)
      have g3 := nextF_le dy (inL cs ka) (td + 1)
      have NE1 := Lib.hid (fun d A h1 h2 hA => valF_next (d := dy) (d' := d) (td := td) (A := A) (l := inL cs ka) h1 h2 hA)
      have NE2 := Lib.hid (fun d A h1 h2 hA => valF_next (d := dy) (d' := d) (td := td) (A := A) (l := inL cs kb) h1 h2 hA)
      unfold ErrR at N1 N2
      generalize nextF dy (td + 1) (inL cs ka) = q1 at *
      generalize nextF dy (td + 1) (inL cs kb) = q2 at *
      obtain ⟨A, hA⟩ : ∃ A, min q1 q2 = A := ⟨_, rfl⟩
      have hA1 : A ≤ q1 := by omega
      have hA2 : A ≤ q2 := by omega
      have hA3 : dy < A := by omega
      have hA4 : A ≤ td + 1 := by omega
      have ST := Lib.hid (days_next (difV cs ka kb) fr dy A m hdy hA3 (fun d h1 h2 => by
        unfold difV valL
        rw [NE1.out d A h1 h2 hA1, NE2.out d A h1 h2 hA2]))
      have VA : Hid (∀ s ∈ days (difV cs ka kb) [] fr m, s.va = 0) := Lib.hid (days_va (fun d v h => difF_va _ _ v h) _ _ _ (by simp))
      have ol : (days (difV cs ka kb) [] fr m).length ≤ 100000 := by
        have := days_len (difV cs ka kb) m [] fr
        have e : ([] : List Slc).length = 0 := rfl
        omega
      have HM : Hid (A = fr + ((m + (A - dy).toNat : Nat) : Int)) := Lib.hid (by omega)
      have FN := Lib.hid (fun h => difV_none (cs := cs) (ka := ka) (kb := kb) (d := dy) h)
      have FS := Lib.hid (fun h => difV_some (cs := cs) (ka := ka) (kb := kb) (d := dy) h)
      have dy0 : 0 ≤ dy := by omega
      clear NE1 NE2 hdy
      generalize difV cs ka kb dy = fx at *
      generalize valL cs ka dy = x at *
      generalize valL cs kb dy = y at *
      have OEQ := Lib.hid (opt_eq x y)
      have XE : Hid (x = y → x.getD 0 = y.getD 0 ∧ x.isSome = y.isSome) := Lib.hid fun h => by subst h; exact ⟨rfl, rfl⟩
      unfold ValR at C1 C2
      generalize x.getD 0 = p at *
      generalize y.getD 0 = q at *
      generalize x.isSome = s1 at *
      generalize y.isSome = s2 at *
      generalize hO : days (difV cs ka kb) [] fr m = out at *
      generalize hO' : days (difV cs ka kb) [] fr (m + (A - dy).toNat) = out' at *
      have HO' := Lib.hid hO'
      clear hO hO'
      have wc : IntKind.i64.wrap (dy - 1) = dy - 1 := by rw [IntKind.wrap_i64]; omega
      have wA : IntKind.i64.wrap (A - 1) = A - 1 := by rw [IntKind.wrap_i64]; omega
      have BI := Lib.hid HI.out.below
      go_wp2_with fail
      refine (C1.out wr BI.out).mono ?_
      rintro e w4 ⟨rfl, b4⟩
      have HI4 := Lib.hid (HI.out.more b4)
      clear b4 HI BI C1
      go_wp2_with fail
      refine (C2.out w4 HI4.out.below).mono ?_
      rintro e w5 ⟨rfl, b5⟩
      have HI5 := Lib.hid (HI4.out.more b5)
      clear b5 HI4 C2
      go_wp2_with fail
      refine (N1.out w5 HI5.out.below).mono ?_
      rintro e w6 ⟨rfl, b6⟩
      have HI6 := Lib.hid (HI5.out.more b6)
      clear b6 HI5 N1
      go_wp2_with fail
      refine (N2.out w6 HI6.out.below).mono ?_
      rintro e w7 ⟨rfl, b7⟩
      have HI7 := Lib.hid (HI6.out.more b7)
      clear b7 HI6 N2
      rcases split_last out with ho | ⟨pre, s, ho⟩
      · have vn : ∃ aa cc, u15 = .slice aa 0 cc := by
          obtain ⟨aa, cc, e, _⟩ := HI7.out.done
          exact ⟨aa, cc, by rw [e, ho]; rfl⟩
        obtain ⟨aa, cc, hvn⟩ := vn
        subst hvn
        have O0 : out.length = 0 := by rw [ho]; rfl
        by_cases hp : p = q
        · by_cases hs : s1 = s2
          · have FX := Lib.hid (FN.out (OEQ.out hp hs))
            have E7 := Lib.hid (show out' = out by rw [ST.out, FX.out])
            subst hp
            subst hs
            have tp : (p == p) = true := by simp
            have ts : (s1 == s1) = true := by simp
            clear FN FS OEQ XE ST FX
            go_wp2_with fail
            go_roundw
            case rel => exact ⟨m + (A - dy).toNat, A, by go_num, HM.out, hA4, by rw [HO'.out, E7.out]; exact HI7⟩
            case measure => simp [intOf]; omega
          · have FX := Lib.hid (FS.out fun h => hs (XE.out h).2)
            subst hp
            have tp : (p == p) = true := by simp
            have ts : (s1 == s2) = false := by simpa using hs
            clear FN FS OEQ XE
            have E7 := Lib.hid (show out' = out ++ [⟨dy, A - 1, 0⟩] by rw [ST.out, FX.out, ho]; exact blk_nil _ _ _)
            clear ST FX
            have HI9 := Lib.hid (HI7.out.more ((Below.refl w7.heap.size w7).alloc (Nat.le_refl _) (.cells #[.int .i64 dy, .int .i64 (A - 1)] 56)))
            go_wp2_with (at_builtin; refine wpList_append_own _ rfl _ _ 49 rfl wS.heap.size 56 i0 (.agg #[.int .i64 0, .int .i64 0]) 2 16 Try.underlying49 HQ.out.1 HQ.out.2.1 HQ.out.2.2.1 HQ.out.2.2.2 rfl (by decide) _ _ _ rfl HI9.out.row ⟨w7.heap.size, 0, none⟩ 1 1 [.int .i64 dy, .int .i64 (A - 1)] rfl rfl ?k1_1 ?k1_2 ?k1_3 ?k1_4 ?k1_5 ?_)
            case k1_1 =>
              intro j x hx
              rcases j with _ | _ | j
              · have e : x = .int .i64 dy := by simpa using hx.symm
                subst e; go_simp
              · have e : x = .int .i64 (A - 1) := by simpa using hx.symm
                subst e; go_simp
              · simp at hx
            case k1_2 => intro x hx; simp at hx; rcases hx with rfl | rfl <;> rfl
            case k1_3 => unfold maxLen; first | omega | (simp; omega)
            case k1_4 => first | omega | (simp; omega)
            case k1_5 => exact HI9.out.below.size
            intro v9 w9 hown hgrow _
            have HIa := Lib.hid (HI9.out.grown (s := ⟨dy, A - 1, 0⟩) (by simpa [ho] using hown) hgrow)
            clear hown hgrow HI9
            go_wp2_with fail
            go_roundw
            case rel => exact ⟨m + (A - dy).toNat, A, by go_num, HM.out, hA4, by rw [HO'.out, E7.out]; exact HIa⟩
            case measure => simp [intOf]; omega
        · have FX := Lib.hid (FS.out fun h => hp (XE.out h).1)
          have tp : (p == q) = false := by simpa using hp
          clear FN FS OEQ XE
          have E7 := Lib.hid (show out' = out ++ [⟨dy, A - 1, 0⟩] by rw [ST.out, FX.out, ho]; exact blk_nil _ _ _)
          clear ST FX
          have HI9 := Lib.hid (HI7.out.more ((Below.refl w7.heap.size w7).alloc (Nat.le_refl _) (.cells #[.int .i64 dy, .int .i64 (A - 1)] 56)))
          go_wp2_with (at_builtin; refine wpList_append_own _ rfl _ _ 49 rfl wS.heap.size 56 i0 (.agg #[.int .i64 0, .int .i64 0]) 2 16 Try.underlying49 HQ.out.1 HQ.out.2.1 HQ.out.2.2.1 HQ.out.2.2.2 rfl (by decide) _ _ _ rfl HI9.out.row ⟨w7.heap.size, 0, none⟩ 1 1 [.int .i64 dy, .int .i64 (A - 1)] rfl rfl ?k2_1 ?k2_2 ?k2_3 ?k2_4 ?k2_5 ?_)
          case k2_1 =>
            intro j x hx
            rcases j with _ | _ | j
            · have e : x = .int .i64 dy := by simpa using hx.symm
              subst e; go_simp
            · have e : x = .int .i64 (A - 1) := by simpa using hx.symm
              subst e; go_simp
            · simp at hx
          case k2_2 => intro x hx; simp at hx; rcases hx with rfl | rfl <;> rfl
          case k2_3 => unfold maxLen; first | omega | (simp; omega)
          case k2_4 => first | omega | (simp; omega)
          case k2_5 => exact HI9.out.below.size
          intro v9 w9 hown hgrow _
          have HIa := Lib.hid (HI9.out.grown (s := ⟨dy, A - 1, 0⟩) (by simpa [ho] using hown) hgrow)
          clear hown hgrow HI9
          go_wp2_with fail
          go_roundw
          case rel => exact ⟨m + (A - dy).toNat, A, by go_num, HM.out, hA4, by rw [HO'.out, E7.out]; exact HIa⟩
          case measure => simp [intOf]; omega
      · have sv : s.va = 0 := VA.out s (by rw [ho]; simp)
        have HI8 := HI7
        rw [ho] at HI8
        obtain ⟨gg, cc, hvn, hcc, _, hgg, zc, zf, hset⟩ := HI8.out.last
        subst hvn
        have HS := Lib.hid hset
        clear hset HI8
        by_cases hp : p = q
        · by_cases hs : s1 = s2
          · have FX := Lib.hid (FN.out (OEQ.out hp hs))
            have E7 := Lib.hid (show out' = out by rw [ST.out, FX.out])
            subst hp
            subst hs
            have tp : (p == p) = true := by simp
            have ts : (s1 == s1) = true := by simp
            clear FN FS OEQ XE ST FX
            have wd : IntKind.i64.wrap (((pre.length + 1 : Nat) : Int) - 1) = (pre.length : Int) := by rw [IntKind.wrap_i64]; omega
            have wd2 : ((pre.length + 1 : Nat) : Int) - 1 = (pre.length : Int) := by omega
            have wd3 : IntKind.i64.wrap (pre.length : Int) = (pre.length : Int) := by rw [IntKind.wrap_i64]; omega
            have td0 : decide ((0 : Int) < ((pre.length + 1 : Nat) : Int)) = true := decide_eq_true (by omega)
            have dm0 : (0 : Int) ≤ (pre.length : Int) := by omega
            have dm : (pre.length : Int) < ((pre.length + 1 : Nat) : Int) := by omega
            generalize hm9 : pre.length + 1 = L1 at *
            generalize pre.length = L0 at *
            clear hm9
            go_wp2_with fail
            go_roundw
            case rel => exact ⟨m + (A - dy).toNat, A, by go_num, HM.out, hA4, by rw [HO'.out, E7.out]; exact HI7⟩
            case measure => simp [intOf]; omega
          · have FX := Lib.hid (FS.out fun h => hs (XE.out h).2)
            subst hp
            have tp : (p == p) = true := by simp
            have ts : (s1 == s2) = false := by simpa using hs
            clear FN FS OEQ XE
            by_cases hst : s.to = dy - 1
            · have E7 := Lib.hid (show out' = pre ++ [⟨s.fr, A - 1, s.va⟩] by rw [ST.out, FX.out, ho, sv]; exact blk_join pre s _ _ _ ⟨sv, hst⟩)
              have tt : (s.to == dy - 1) = true := by simpa using hst
              clear ST FX hst ho VA sv
              generalize s.to = st at *
              have wd : IntKind.i64.wrap (((pre.length + 1 : Nat) : Int) - 1) = (pre.length : Int) := by rw [IntKind.wrap_i64]; omega
              have wd2 : ((pre.length + 1 : Nat) : Int) - 1 = (pre.length : Int) := by omega
              have wd3 : IntKind.i64.wrap (pre.length : Int) = (pre.length : Int) := by rw [IntKind.wrap_i64]; omega
              have td0 : decide ((0 : Int) < ((pre.length + 1 : Nat) : Int)) = true := decide_eq_true (by omega)
              have dm0 : (0 : Int) ≤ (pre.length : Int) := by omega
              have dm : (pre.length : Int) < ((pre.length + 1 : Nat) : Int) := by omega
              generalize hm9 : pre.length + 1 = L1 at *
              generalize pre.length = L0 at *
              clear hm9
              go_wp2_with fail
              go_roundw
              case rel => exact ⟨m + (A - dy).toNat, A, by go_num, HM.out, hA4, by rw [HO'.out, E7.out]; exact Lib.hid (HS.out _)⟩
              case measure => simp [intOf]; omega
            · have E7 := Lib.hid (show out' = out ++ [⟨dy, A - 1, 0⟩] by rw [ST.out, FX.out, ho]; exact blk_new pre s _ _ _ (fun h => hst h.2))
              have tt : (s.to == dy - 1) = false := by simpa using hst
              clear ST FX hst HS
              generalize s.to = st at *
              have O0 : out.length = pre.length + 1 := by rw [ho]; simp
              have wd : IntKind.i64.wrap (((pre.length + 1 : Nat) : Int) - 1) = (pre.length : Int) := by rw [IntKind.wrap_i64]; omega
              have wd2 : ((pre.length + 1 : Nat) : Int) - 1 = (pre.length : Int) := by omega
              have wd3 : IntKind.i64.wrap (pre.length : Int) = (pre.length : Int) := by rw [IntKind.wrap_i64]; omega
              have td0 : decide ((0 : Int) < ((pre.length + 1 : Nat) : Int)) = true := decide_eq_true (by omega)
              have dm0 : (0 : Int) ≤ (pre.length : Int) := by omega
              have dm : (pre.length : Int) < ((pre.length + 1 : Nat) : Int) := by omega
              generalize hm9 : pre.length + 1 = L1 at *
              generalize pre.length = L0 at *
              clear hm9
              have HI9 := Lib.hid (HI7.out.more ((Below.refl w7.heap.size w7).alloc (Nat.le_refl _) (.cells #[.int .i64 dy, .int .i64 (A - 1)] 56)))
              go_wp2_with (at_builtin; refine wpList_append_own _ rfl _ _ 49 rfl wS.heap.size 56 i0 (.agg #[.int .i64 0, .int .i64 0]) 2 16 Try.underlying49 HQ.out.1 HQ.out.2.1 HQ.out.2.2.1 HQ.out.2.2.2 rfl (by decide) _ _ _ rfl HI9.out.row ⟨w7.heap.size, 0, none⟩ 1 1 [.int .i64 dy, .int .i64 (A - 1)] rfl rfl ?k3_1 ?k3_2 ?k3_3 ?k3_4 ?k3_5 ?_)
              case k3_1 =>
                intro j x hx
                rcases j with _ | _ | j
                · have e : x = .int .i64 dy := by simpa using hx.symm
                  subst e; go_simp
                · have e : x = .int .i64 (A - 1) := by simpa using hx.symm
                  subst e; go_simp
                · simp at hx
              case k3_2 => intro x hx; simp at hx; rcases hx with rfl | rfl <;> rfl
              case k3_3 => unfold maxLen; first | omega | (simp; omega)
              case k3_4 => first | omega | (simp; omega)
              case k3_5 => exact HI9.out.below.size
              intro v9 w9 hown hgrow _
              have HIa := Lib.hid (HI9.out.grown (s := ⟨dy, A - 1, 0⟩) (by simpa [ho] using hown) hgrow)
              clear hown hgrow HI9
              go_wp2_with fail
              go_roundw
              case rel => exact ⟨m + (A - dy).toNat, A, by go_num, HM.out, hA4, by rw [HO'.out, E7.out]; exact HIa⟩
              case measure => simp [intOf]; omega
        · have FX := Lib.hid (FS.out fun h => hp (XE.out h).1)
          have tp : (p == q) = false := by simpa using hp
          clear FN FS OEQ XE
          by_cases hst : s.to = dy - 1
          · have E7 := Lib.hid (show out' = pre ++ [⟨s.fr, A - 1, s.va⟩] by rw [ST.out, FX.out, ho, sv]; exact blk_join pre s _ _ _ ⟨sv, hst⟩)
            have tt : (s.to == dy - 1) = true := by simpa using hst
            clear ST FX hst ho VA sv
            generalize s.to = st at *
            have wd : IntKind.i64.wrap (((pre.length + 1 : Nat) : Int) - 1) = (pre.length : Int) := by rw [IntKind.wrap_i64]; omega
            have wd2 : ((pre.length + 1 : Nat) : Int) - 1 = (pre.length : Int) := by omega
            have wd3 : IntKind.i64.wrap (pre.length : Int) = (pre.length : Int) := by rw [IntKind.wrap_i64]; omega
            have td0 : decide ((0 : Int) < ((pre.length + 1 : Nat) : Int)) = true := decide_eq_true (by omega)
            have dm0 : (0 : Int) ≤ (pre.length : Int) := by omega
            have dm : (pre.length : Int) < ((pre.length + 1 : Nat) : Int) := by omega
            generalize hm9 : pre.length + 1 = L1 at *
            generalize pre.length = L0 at *
            clear hm9
            go_wp2_with fail
            go_roundw
            case rel => exact ⟨m + (A - dy).toNat, A, by go_num, HM.out, hA4, by rw [HO'.out, E7.out]; exact Lib.hid (HS.out _)⟩
            case measure => simp [intOf]; omega
          · have E7 := Lib.hid (show out' = out ++ [⟨dy, A - 1, 0⟩] by rw [ST.out, FX.out, ho]; exact blk_new pre s _ _ _ (fun h => hst h.2))
            have tt : (s.to == dy - 1) = false := by simpa using hst
            clear ST FX hst HS
            generalize s.to = st at *
            have O0 : out.length = pre.length + 1 := by rw [ho]; simp
            have wd : IntKind.i64.wrap (((pre.length + 1 : Nat) : Int) - 1) = (pre.length : Int) := by rw [IntKind.wrap_i64]; omega
            have wd2 : ((pre.length + 1 : Nat) : Int) - 1 = (pre.length : Int) := by omega
            have wd3 : IntKind.i64.wrap (pre.length : Int) = (pre.length : Int) := by rw [IntKind.wrap_i64]; omega
            have td0 : decide ((0 : Int) < ((pre.length + 1 : Nat) : Int)) = true := decide_eq_true (by omega)
            have dm0 : (0 : Int) ≤ (pre.length : Int) := by omega
            have dm : (pre.length : Int) < ((pre.length + 1 : Nat) : Int) := by omega
            generalize hm9 : pre.length + 1 = L1 at *
            generalize pre.length = L0 at *
            clear hm9
            have HI9 := Lib.hid (HI7.out.more ((Below.refl w7.heap.size w7).alloc (Nat.le_refl _) (.cells #[.int .i64 dy, .int .i64 (A - 1)] 56)))
            go_wp2_with (at_builtin; refine wpList_append_own _ rfl _ _ 49 rfl wS.heap.size 56 i0 (.agg #[.int .i64 0, .int .i64 0]) 2 16 Try.underlying49 HQ.out.1 HQ.out.2.1 HQ.out.2.2.1 HQ.out.2.2.2 rfl (by decide) _ _ _ rfl HI9.out.row ⟨w7.heap.size, 0, none⟩ 1 1 [.int .i64 dy, .int .i64 (A - 1)] rfl rfl ?k4_1 ?k4_2 ?k4_3 ?k4_4 ?k4_5 ?_)
            case k4_1 =>
              intro j x hx
              rcases j with _ | _ | j
              · have e : x = .int .i64 dy := by simpa using hx.symm
                subst e; go_simp
              · have e : x = .int .i64 (A - 1) := by simpa using hx.symm
                subst e; go_simp
              · simp at hx
            case k4_2 => intro x hx; simp at hx; rcases hx with rfl | rfl <;> rfl
            case k4_3 => unfold maxLen; first | omega | (simp; omega)
            case k4_4 => first | omega | (simp; omega)
            case k4_5 => exact HI9.out.below.size
            intro v9 w9 hown hgrow _
            have HIa := Lib.hid (HI9.out.grown (s := ⟨dy, A - 1, 0⟩) (by simpa [ho] using hown) hgrow)
            clear hown hgrow HI9
            go_wp2_with fail
            go_roundw
            case rel => exact ⟨m + (A - dy).toNat, A, by go_num, HM.out, hA4, by rw [HO'.out, E7.out]; exact HIa⟩
            case measure => simp [intOf]; omega
    · have t0 : decide (dy ≤ td) = false := decide_eq_false hlt
      obtain ⟨x9, c9, hv9, hrow⟩ := HI.out.done
      subst hv9
      have HRW := Lib.hid hrow
      have EB := Lib.hid (show difA cs ka kb fr td = days (difV cs ka kb) [] fr m by rw [EA.out, show (td + 1 - fr).toNat = m by omega])
      have BI := Lib.hid HI.out.below
      clear hrow EA hdy HI
      go_wp2
      go_ret2
      refine ⟨x9, c9, by rw [EB.out, EC.out]; rfl, fun h0 => ?_, BS.out.trans (BI.out.mono BS.out.size)⟩
      rw [EB.out] at h0
      obtain ⟨g9, e1, e2, e3, e4⟩ := HRW.out h0
      exact ⟨g9, e1, Nat.le_trans BS.out.size e2, e3, by rw [EB.out]; exact e4⟩
set_option maxRecDepth 100000 in
set_option maxHeartbeats 2000000 in
theorem rdiff_any (a : Option Addr) (n cap : Nat) (cs : List Chg) (ka kb fr td : Int) (w : World) (h : Lst w a n cap cs) :
    Calls Try.prog 22 #[.slice a n cap, .int .i64 ka, .int .i64 kb, .int .i64 fr, .int .i64 td] w (DifR cs ka kb fr td w) := by
  by_cases hok : chkE cs fr td = 0
  · exact rdiff_ok a n cap cs ka kb fr td w h hok
  · have CK := Lib.hid (rchk_any a n cap cs fr td w h)
    have HE : Hid (∀ w' : World, Below w.heap.size w w' → DifR cs ka kb fr td w (.returned (.tuple #[.slice none 0 0, .int .i64 (chkE cs fr td)])) w') := Lib.hid fun w' hb => dif_bad hok rfl hb
    have t0 : (chkE cs fr td != 0) = true := by simpa using hok
    clear h hok
    generalize chkE cs fr td = c at *
    go_enter Try.func22, Try.ntmps22
    go_wp2_with fail
    refine CK.out.mono ?_
    rintro e w1 ⟨rfl, b1⟩
    have B1 := Lib.hid b1
    clear b1 CK
    go_wp2_with fail
    go_ret2
    exact HE.out _ B1.out
end Go.Proofs.Ytdpgmjmmnjbbiaa.Tl
