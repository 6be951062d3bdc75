/-
  Layer 6 (timeline): the contract of Diff. Condition: the list reads as changes.
-/
import Derived.Test.YtdpgmjmmnjbbiaaPrUl
namespace Go.Proofs.Ytdpgmjmmnjbbiaa.Tl
open Go Go.RowKit Go.Lib Go.Sort Go.Shelf Go.Proofs Go.Proofs.Ytdpgmjmmnjbbiaa Go.Proofs.Ytdpgmjmmnjbbiaa.Tp
set_option linter.unusedVariables false

theorem chkE_ok {cs : List Chg} {fr to : Int} (h : chkE cs fr to = 0) : valE cs = 0 ∧ 0 ≤ fr ∧ fr ≤ to ∧ to ≤ 84005 := by
  unfold chkE at h
  split at h
  · exact absurd h ‹_›
  · split at h
    · simp at h
    · split at h
      · simp at h
      · have := ‹¬¬ valE cs = 0›
        omega
/-- A list that steps leaves, in whatever world behind it. -/
theorem stepR_lst {l : List Chg} {w w' : World} {a : Option Addr} {cap : Nat} (h1 : ChgRow w' w'.heap.size a l.length l) (h2 : a = none → l.length = 0 ∧ cap = 0) (hl : l.length ≤ 9223372036854775807) : Lst w' a l.length cap l := ⟨h1, h2, hl⟩
def difV (cs : List Chg) (ka kb d : Int) : Option Int := difF (valL cs ka d) (valL cs kb d)
theorem dif_const {cs : List Chg} {ka kb fr to : Int} {ys : List Int} (h : Cuts ys fr to (stepsL cs ka ++ stepsL cs kb)) {i : Nat} (hi : i < ys.length) : ∀ d, pos ys to i ≤ d → d < pos ys to (i + 1) → difV cs ka kb d = difV cs ka kb (pos ys to i) := by
  intro d h1 h2
  have k := h.const hi h1 h2
  unfold difV
  rw [← valF_steps cs ka d, ← valF_steps cs kb d, ← valF_steps cs ka (pos ys to i), ← valF_steps cs kb (pos ys to i),
    valF_same h1 (stepsL cs ka) none fun c hc => k c (List.mem_append.2 (.inl hc)), valF_same h1 (stepsL cs kb) none fun c hc => k c (List.mem_append.2 (.inr hc))]
theorem difV_none {cs : List Chg} {ka kb d : Int} (h : valL cs ka d = valL cs kb d) : difV cs ka kb d = none := if_pos h
theorem difV_some {cs : List Chg} {ka kb d : Int} (h : valL cs ka d ≠ valL cs kb d) : difV cs ka kb d = some 0 := if_neg h
theorem dif_va {cs : List Chg} {ka kb fr to : Int} {ys : List Int} {i : Nat} : ∀ s ∈ difI (difV cs ka kb) ys fr to i, s.va = 0 := days_va (fun d v h => difF_va _ _ v h) _ _ _ (by simp)
theorem split_last (l : List Slc) : l = [] ∨ ∃ pre s, l = pre ++ [s] := by
  rcases List.eq_nil_or_concat l with h | ⟨pre, s, h⟩
  · exact .inl h
  · exact .inr ⟨pre, s, by rw [h, List.concat_eq_append]⟩
/-- What the loop of Diff finds in every round. -/
structure DfK (wS : World) (cs : List Chg) (ka kb fr to : Int) (x1 : Option Addr) (n1 c1 : Nat) (x2 : Option Addr) (n2 c2 : Nat) (g off : Nat) (ys : List Int) : Prop where
  r1 : ChgRow wS wS.heap.size x1 n1 (stepsL cs ka)
  r2 : ChgRow wS wS.heap.size x2 n2 (stepsL cs kb)
  b1 : n1 ≤ 10000
  b2 : n2 ≤ 10000
  cuts : Cuts ys fr to (stepsL cs ka ++ stepsL cs kb)
  cell : ∀ j, j < ys.length → wS.cell? ⟨g, off + j, none⟩ = some (.int .i64 ys[j]!)
  f0 : 0 ≤ fr
  t1 : to ≤ 84005
theorem DfK.val1 {wS W : World} {cs : List Chg} {ka kb fr to : Int} {x1 x2 : Option Addr} {n1 c1 n2 c2 g off : Nat} {ys : List Int} (h : DfK wS cs ka kb fr to x1 n1 c1 x2 n2 c2 g off ys) (hb : Below wS.heap.size wS W) (d : Int) (hd : 0 ≤ d ∧ d ≤ 84005) :
    Calls Try.prog 32 #[.slice x1 n1 c1, .int .i64 d] W (ValR (valL cs ka d) W) := by
  rw [← valF_steps]
  exact value_any x1 n1 c1 _ d (by omega) (by have := h.b1; omega) (stepsL_asc cs ka) W ((h.r1.below hb).mono hb.size)
theorem DfK.val2 {wS W : World} {cs : List Chg} {ka kb fr to : Int} {x1 x2 : Option Addr} {n1 c1 n2 c2 g off : Nat} {ys : List Int} (h : DfK wS cs ka kb fr to x1 n1 c1 x2 n2 c2 g off ys) (hb : Below wS.heap.size wS W) (d : Int) (hd : 0 ≤ d ∧ d ≤ 84005) :
    Calls Try.prog 32 #[.slice x2 n2 c2, .int .i64 d] W (ValR (valL cs kb d) W) := by
  rw [← valF_steps]
  exact value_any x2 n2 c2 _ d (by omega) (by have := h.b2; omega) (stepsL_asc cs kb) W ((h.r2.below hb).mono hb.size)

set_option maxRecDepth 100000 in
set_option maxHeartbeats 16000000 in
theorem diff_ok (a : Option Addr) (n cap : Nat) (cs : List Chg) (ka kb fr to : Int) (w : World) (h : Lst w a n cap cs) (hok : chkE cs fr to = 0) :
    Calls Try.prog 21 #[.slice a n cap, .int .i64 ka, .int .i64 kb, .int .i64 fr, .int .i64 to] w (DifR cs ka kb fr to w) := by
  have CK := Lib.hid (chk_any a n cap cs fr to w h)
  rw [hok] at CK
  have H := Lib.hid h
  obtain ⟨v0, f0, ft, t1⟩ := chkE_ok hok
  have n2 : n ≤ 1024 := by rw [← h.1.1]; exact (valE_ok v0).1
  have EC := Lib.hid hok
  obtain ⟨i0, hi0, hz0, hz1, hz2⟩ := info2
  have HQ := Lib.hid (And.intro hi0 (And.intro hz0 (And.intro hz1 hz2)))
  clear hi0 hz0 hz1 hz2
  clear h hok v0
  go_enter Try.func21, Try.ntmps21
  go_wp2_with fail
  refine CK.out.mono ?_
  rintro e w1 ⟨rfl, b1⟩
  have H1 := Lib.hid (H.out.more b1)
  have B1 := Lib.hid b1
  clear b1 H CK
  go_wp2_with fail
  refine (steps_any a n cap cs ka (by omega) w1 H1.out).mono ?_
  rintro e w2 ⟨x1, c1, rfl, r1, b2, _, q1⟩
  have H2 := Lib.hid (H1.out.more b2)
  have B2 := Lib.hid (B1.out.trans (b2.mono B1.out.size))
  have L1 := Lib.hid (show Lst w2 x1 (stepsL cs ka).length c1 (stepsL cs ka) from ⟨r1, q1, by have := stepsL_length cs ka; have := H1.out.1.1; omega⟩)
  have m1 : (stepsL cs ka).length ≤ 1024 := by have := stepsL_length cs ka; have := H1.out.1.1; omega
  clear r1 b2 q1 H1 B1
  generalize hn1 : (stepsL cs ka).length = n1 at *
  have HN1 := Lib.hid hn1
  clear hn1
  go_wp2_with fail
  refine (steps_any a n cap cs kb (by omega) w2 H2.out).mono ?_
  rintro e w3 ⟨x2, c2, rfl, r2, b3, _, q2⟩
  have B3 := Lib.hid (B2.out.trans (b3.mono B2.out.size))
  have L1b := Lib.hid (L1.out.more b3)
  have L2 := Lib.hid (show Lst w3 x2 (stepsL cs kb).length c2 (stepsL cs kb) from ⟨r2, q2, by have := stepsL_length cs kb; have := H2.out.1.1; omega⟩)
  have m2 : (stepsL cs kb).length ≤ 1024 := by have := stepsL_length cs kb; have := H2.out.1.1; omega
  clear r2 b3 q2 H2 B2 L1
  generalize hn2 : (stepsL cs kb).length = n2' at *
  have HN2 := Lib.hid hn2
  clear hn2
  have HP : Hid (Pair (w3.alloc (.cells #[.slice x1 n1 c1, .slice x2 n2' c2] 23)) w3.heap.size x1 n1 c1 (stepsL cs ka) x2 n2' c2 (stepsL cs kb)) :=
    Lib.hid ⟨by go_simp, by go_simp, L1b.out.more ((Below.refl _ _).alloc (Nat.le_refl _) _), L2.out.more ((Below.refl _ _).alloc (Nat.le_refl _) _)⟩
  go_wp2_with fail
  refine (concat_two w3.heap.size x1 n1 c1 _ x2 n2' c2 _ (by omega) (by omega) _ HP.out).mono ?_
  rintro e w4 ⟨x4, c4, rfl, h4, b4⟩
  have HLL := Lib.hid (show (stepsL cs ka ++ stepsL cs kb).length = n1 + n2' by rw [List.length_append, HN1.out, HN2.out])
  have L4 := Lib.hid (OwnO.lst h4 (by rw [HLL.out]; omega))
  have b34 : Below w3.heap.size w3 w4 := Below.trans ((Below.refl w3.heap.size w3).alloc (Nat.le_refl _) _) (b4.mono (by simp))
  have B4 := Lib.hid (B3.out.trans (b34.mono B3.out.size))
  have L1c := Lib.hid (L1b.out.more b34)
  have L2c := Lib.hid (L2.out.more b34)
  have m4 : (stepsL cs ka ++ stepsL cs kb).length ≤ 10000 := by rw [HLL.out]; omega
  have CB := Lib.hid (begins_any x4 _ c4 (stepsL cs ka ++ stepsL cs kb) fr to (by omega) m4 w4 L4.out.1)
  have HCU := Lib.hid (Cuts.of fr to (stepsL cs ka ++ stepsL cs kb) ft)
  have YL := Lib.hid (Nat.le_trans (canon_len (begL fr to (stepsL cs ka ++ stepsL cs kb))) (begL_len fr to (stepsL cs ka ++ stepsL cs kb)))
  clear h4 b4 b34 B3 L1b L2 HP L4
  generalize (stepsL cs ka ++ stepsL cs kb).length = n4 at *
  generalize canon (begL fr to (stepsL cs ka ++ stepsL cs kb)) = ys at *
  go_wp2_with fail
  refine CB.out.mono ?_
  rintro e wS ⟨v5, rfl, o5, b5⟩
  have ylen : 0 < ys.length := HCU.out.first.1
  obtain ⟨g, off, c5, rfl, g0, gc, _, hcell⟩ : ∃ g off c5, v5 = .slice (some ⟨g, off, none⟩) ys.length c5 ∧ w4.heap.size ≤ g ∧ ys.length ≤ c5 ∧ c5 ≤ maxLen ∧ ∀ j (h : j < ys.length), wS.cell? ⟨g, off + j, none⟩ = some (.int .i64 ys[j]) := by
    rcases o5 with ⟨e, _⟩ | h
    · rw [e] at ylen; simp at ylen
    · exact h
  have yb : ys.length ≤ 10001 := by have := YL.out; omega
  have B5 := Lib.hid (B4.out.trans (b5.mono B4.out.size))
  have HK : Hid (DfK wS cs ka kb fr to x1 n1 c1 x2 n2' c2 g off ys) := Lib.hid ⟨(L1c.out.more b5).1, (L2c.out.more b5).1, by omega, by omega, HCU.out, fun j hj => by rw [hcell j hj, getElem!_pos ys j hj], f0, t1⟩
  have HI0 : Hid (RngG wS (.slice none 0 0) (difI (difV cs ka kb) ys fr to 0) wS) := Lib.hid (by rw [difI_zero HCU.out]; exact RngG.nil wS)
  have EA := Lib.hid (show difA cs ka kb fr to = difI (difV cs ka kb) ys fr to ys.length by rw [difI_last]; exact if_pos EC.out)
  clear o5 b5 hcell CB B4 L1c L2c YL HLL HN1 HN2 m1 m2 m4 g0 ylen HCU f0 ft t1 n2
  go_wp2_with fail
  go_loopw [15, 47] (fun v z wr => ∃ i : Nat, i ≤ ys.length ∧ z = .int .i64 i ∧ Hid (RngG wS v (difI (difV cs ka kb) ys fr to i) wr)) (fun _ z _ => ys.length - (intOf z).toNat)
  case atStart => exact ⟨0, by omega, rfl, HI0⟩
  case round =>
    clear HI0
    obtain ⟨i, hi, rfl, HI⟩ := hrel
    by_cases hlt : i < ys.length
    · have t0 : decide ((i : Int) < (ys.length : Int)) = true := decide_eq_true (by omega)
      have i2 : (i : Int) < (ys.length : Int) := by omega
      have yc : wr.cell? ⟨g, off + i, none⟩ = some (.int .i64 ys[i]!) := (HI.out.below.cell (World.block_lt_of_cell? wS _ (HK.out.cell i hlt))).trans (HK.out.cell i hlt)
      obtain ⟨J, hJ⟩ : ∃ J, J = i + 1 := ⟨_, rfl⟩
      have wj : IntKind.i64.wrap ((i : Int) + 1) = (J : Int) := by rw [IntKind.wrap_i64]; omega
      have wj2 : (i : Int) + 1 = (J : Int) := by omega
      have J1 : J ≤ ys.length := by omega
      have J0 : 0 < J := by omega
      have Ji : i < J := by omega
      have cb := HK.out.cuts.bd hlt
      have cb0 : 0 ≤ ys[i]! := by have := HK.out.f0; omega
      have cb1 : ys[i]! ≤ 84005 := by have := HK.out.t1; omega
      have ST := Lib.hid (difI_step HK.out.cuts hlt (dif_const HK.out.cuts hlt))
      have st := HK.out.cuts.step hlt
      rw [← hJ] at ST st
      have P1 : pos ys to J - 1 ≤ 84005 := by have := HK.out.t1; omega
      have P0 : 0 ≤ pos ys to J - 1 := by omega
      have PV1 : Hid (∀ hj : J < ys.length, pos ys to J = ys[J]! ∧ wS.cell? ⟨g, off + J, none⟩ = some (.int .i64 ys[J]!)) := Lib.hid fun hj => ⟨by unfold pos; rw [if_pos hj], HK.out.cell J hj⟩
      have PV2 : Hid (¬ J < ys.length → pos ys to J = to + 1) := Lib.hid fun hj => by unfold pos; rw [if_neg hj]
      have VA := Lib.hid (dif_va (cs := cs) (ka := ka) (kb := kb) (fr := fr) (to := to) (ys := ys) (i := i))
      have ol : (difI (difV cs ka kb) ys fr to i).length ≤ 100000 := by
        have := days_len (difV cs ka kb) (pos ys to i - fr).toNat [] fr
        have e : ([] : List Slc).length = 0 := rfl
        have := HK.out.f0
        have := HK.out.t1
        unfold difI
        omega
      have C1 := Lib.hid (fun W hb => HK.out.val1 (W := W) hb ys[i]! ⟨cb0, cb1⟩)
      have C2 := Lib.hid (fun W hb => HK.out.val2 (W := W) hb ys[i]! ⟨cb0, cb1⟩)
      have FN := Lib.hid (fun h => difV_none (cs := cs) (ka := ka) (kb := kb) (d := ys[i]!) h)
      have FS := Lib.hid (fun h => difV_some (cs := cs) (ka := ka) (kb := kb) (d := ys[i]!) h)
      clear hJ st cb
      generalize difV cs ka kb ys[i]! = fx at *
      generalize valL cs ka ys[i]! = x at *
      generalize valL cs kb ys[i]! = y at *
      generalize hP : pos ys to J - 1 = P at *
      generalize ys[i]! = cut at *
      have HPP := Lib.hid hP
      clear hP
      generalize hO' : difI (difV cs ka kb) ys fr to J = out' at *
      have HO' := Lib.hid hO'
      clear hO'
      have OEQ := Lib.hid (opt_eq x y)
      have XE : Hid (x = y → x.getD 0 = y.getD 0 ∧ x.isSome = y.isSome) := Lib.hid fun h => by subst h; exact ⟨rfl, rfl⟩
      unfold ValR at C1 C2
      generalize x.getD 0 = p at *
      generalize y.getD 0 = q at *
      generalize x.isSome = s1 at *
      generalize y.isSome = s2 at *
      generalize difI (difV cs ka kb) ys fr to i = out at *
      have wc : IntKind.i64.wrap (cut - 1) = cut - 1 := by rw [IntKind.wrap_i64]; omega
      go_wp2_with fail
      refine (C1.out wr HI.out.below).mono ?_
      rintro e w6 ⟨rfl, b6⟩
      have HI6 := Lib.hid (HI.out.more b6)
      clear b6 HI
      go_wp2_with fail
      refine (C2.out w6 HI6.out.below).mono ?_
      rintro e w7 ⟨rfl, b7⟩
      have HI7 := Lib.hid (HI6.out.more b7)
      clear b7 HI6 C1 C2 yc
      by_cases hp : p = q
      · by_cases hs : s1 = s2
        · have FX := Lib.hid (FN.out (OEQ.out hp hs))
          have E7 := Lib.hid (show out' = out by rw [ST.out, FX.out])
          subst hp
          subst hs
          have tp : (p == p) = true := by simp
          have ts : (s1 == s1) = true := by simp
          clear FN FS OEQ XE ST FX
          go_wp2_with fail
          go_roundw
          case rel => exact ⟨J, J1, by go_num, by rw [HO'.out, E7.out]; exact HI7⟩
          case measure => simp [intOf]; omega
        · have FX := Lib.hid (FS.out fun h => hs (XE.out h).2)
          subst hp
          have tp : (p == p) = true := by simp
          have ts : (s1 == s2) = false := by simpa using hs
          clear FN FS OEQ XE
          by_cases hj : J < ys.length
          · obtain ⟨pe, jc⟩ := PV1.out hj
            have yj : w7.cell? ⟨g, off + J, none⟩ = some (.int .i64 ys[J]!) := (HI7.out.below.cell (World.block_lt_of_cell? wS _ jc)).trans jc
            have tj : decide ((J : Int) < (ys.length : Int)) = true := decide_eq_true (by omega)
            have jl : (J : Int) < (ys.length : Int) := by omega
            have pe2 : ys[J]! - 1 = P := by rw [← pe]; exact HPP.out
            have wp : IntKind.i64.wrap (ys[J]! - 1) = P := by rw [IntKind.wrap_i64]; omega
            clear jc pe
            generalize ys[J]! = nx at *
            rcases split_last out with ho | ⟨pre, s, ho⟩
            · have E7 := Lib.hid (show out' = out ++ [⟨cut, P, 0⟩] by rw [ST.out, FX.out, ho]; exact blk_nil _ _ _)
              have vn : u15 = .slice none 0 0 ∨ ∃ gg cc, u15 = .slice (some ⟨gg, 0, none⟩) 0 cc := by
                rcases HI7.out.row.2 with ⟨e, _⟩ | ⟨gg, cc, _, e, _⟩
                · exact .inl e
                · exact .inr ⟨gg, cc, by rw [e, ho]; rfl⟩
              have O0 : out.length = 0 := by rw [ho]; rfl
              rcases vn with rfl | ⟨gg, cc, rfl⟩
              · clear ST FX PV1 PV2
                have HI9 := Lib.hid (HI7.out.more ((Below.refl w7.heap.size w7).alloc (Nat.le_refl _) (.cells #[.int .i64 cut, .int .i64 P] 56)))
                go_wp2_with (at_builtin; refine wpList_append_own _ rfl _ _ 49 rfl wS.heap.size 56 i0 (.agg #[.int .i64 0, .int .i64 0]) 2 16 Try.underlying49 HQ.out.1 HQ.out.2.1 HQ.out.2.2.1 HQ.out.2.2.2 rfl (by decide) _ _ _ rfl HI9.out.row ⟨w7.heap.size, 0, none⟩ 1 1 [.int .i64 cut, .int .i64 P] rfl rfl ?k7_1 ?k7_2 ?k7_3 ?k7_4 ?k7_5 ?_)
                case k7_1 =>
                  intro j x hx
                  rcases j with _ | _ | j
                  · have e : x = .int .i64 cut := by simpa using hx.symm
                    subst e; go_simp
                  · have e : x = .int .i64 P := by simpa using hx.symm
                    subst e; go_simp
                  · simp at hx
                case k7_2 => intro x hx; simp at hx; rcases hx with rfl | rfl <;> rfl
                case k7_3 => unfold maxLen; omega
                case k7_4 => omega
                case k7_5 => exact HI9.out.below.size
                intro v9 w9 hown hgrow _
                have HIa := Lib.hid (HI9.out.grown (s := ⟨cut, P, 0⟩) (by simpa [ho] using hown) hgrow)
                clear hown hgrow HI9
                go_wp2_with fail
                go_roundw
                case rel => exact ⟨J, J1, by go_num, by rw [HO'.out, E7.out]; exact HIa⟩
                case measure => simp [intOf]; omega
              · clear ST FX PV1 PV2
                have HI9 := Lib.hid (HI7.out.more ((Below.refl w7.heap.size w7).alloc (Nat.le_refl _) (.cells #[.int .i64 cut, .int .i64 P] 56)))
                go_wp2_with (at_builtin; refine wpList_append_own _ rfl _ _ 49 rfl wS.heap.size 56 i0 (.agg #[.int .i64 0, .int .i64 0]) 2 16 Try.underlying49 HQ.out.1 HQ.out.2.1 HQ.out.2.2.1 HQ.out.2.2.2 rfl (by decide) _ _ _ rfl HI9.out.row ⟨w7.heap.size, 0, none⟩ 1 1 [.int .i64 cut, .int .i64 P] rfl rfl ?k8_1 ?k8_2 ?k8_3 ?k8_4 ?k8_5 ?_)
                case k8_1 =>
                  intro j x hx
                  rcases j with _ | _ | j
                  · have e : x = .int .i64 cut := by simpa using hx.symm
                    subst e; go_simp
                  · have e : x = .int .i64 P := by simpa using hx.symm
                    subst e; go_simp
                  · simp at hx
                case k8_2 => intro x hx; simp at hx; rcases hx with rfl | rfl <;> rfl
                case k8_3 => unfold maxLen; omega
                case k8_4 => omega
                case k8_5 => exact HI9.out.below.size
                intro v9 w9 hown hgrow _
                have HIa := Lib.hid (HI9.out.grown (s := ⟨cut, P, 0⟩) (by simpa [ho] using hown) hgrow)
                clear hown hgrow HI9
                go_wp2_with fail
                go_roundw
                case rel => exact ⟨J, J1, by go_num, by rw [HO'.out, E7.out]; exact HIa⟩
                case measure => simp [intOf]; omega
            · have sv : s.va = 0 := VA.out s (by rw [ho]; simp)
              have HI8 := HI7
              rw [ho] at HI8
              obtain ⟨gg, cc, rfl, hcc, _, hgg, zc, zf, hset⟩ := HI8.out.last
              have HS := Lib.hid hset
              by_cases hst : s.to = cut - 1
              · have E7 := Lib.hid (show out' = pre ++ [⟨s.fr, P, s.va⟩] by rw [ST.out, FX.out, ho, sv]; exact blk_join pre s _ _ _ ⟨sv, hst⟩)
                have tt : (s.to == cut - 1) = true := by simpa using hst
                clear ST FX PV1 PV2 hset hst HI8 ho
                generalize s.to = st at *
                have wd : IntKind.i64.wrap (((pre.length + 1 : Nat) : Int) - 1) = (pre.length : Int) := by rw [IntKind.wrap_i64]; omega
                have wd2 : ((pre.length + 1 : Nat) : Int) - 1 = (pre.length : Int) := by omega
                have wd3 : IntKind.i64.wrap (pre.length : Int) = (pre.length : Int) := by rw [IntKind.wrap_i64]; omega
                have td : decide ((0 : Int) < ((pre.length + 1 : Nat) : Int)) = true := decide_eq_true (by omega)
                have dm : (pre.length : Int) < ((pre.length + 1 : Nat) : Int) := by omega
                generalize hm : pre.length + 1 = m at *
                generalize pre.length = D at *
                clear hm
                go_wp2_with fail
                go_roundw
                case rel => exact ⟨J, J1, by go_num, by rw [HO'.out, E7.out]; exact Lib.hid (HS.out _)⟩
                case measure => simp [intOf]; omega
              · have E7 := Lib.hid (show out' = out ++ [⟨cut, P, 0⟩] by rw [ST.out, FX.out, ho]; exact blk_new pre s _ _ _ (fun h => hst h.2))
                have tt : (s.to == cut - 1) = false := by simpa using hst
                clear ST FX PV1 PV2 hset hst HI8 HS
                generalize s.to = st at *
                have O0 : out.length = pre.length + 1 := by rw [ho]; simp
                have wd : IntKind.i64.wrap (((pre.length + 1 : Nat) : Int) - 1) = (pre.length : Int) := by rw [IntKind.wrap_i64]; omega
                have wd2 : ((pre.length + 1 : Nat) : Int) - 1 = (pre.length : Int) := by omega
                have wd3 : IntKind.i64.wrap (pre.length : Int) = (pre.length : Int) := by rw [IntKind.wrap_i64]; omega
                have td : decide ((0 : Int) < ((pre.length + 1 : Nat) : Int)) = true := decide_eq_true (by omega)
                have dm : (pre.length : Int) < ((pre.length + 1 : Nat) : Int) := by omega
                generalize hm : pre.length + 1 = m at *
                generalize pre.length = D at *
                clear hm
                have HI9 := Lib.hid (HI7.out.more ((Below.refl w7.heap.size w7).alloc (Nat.le_refl _) (.cells #[.int .i64 cut, .int .i64 P] 56)))
                go_wp2_with (at_builtin; refine wpList_append_own _ rfl _ _ 49 rfl wS.heap.size 56 i0 (.agg #[.int .i64 0, .int .i64 0]) 2 16 Try.underlying49 HQ.out.1 HQ.out.2.1 HQ.out.2.2.1 HQ.out.2.2.2 rfl (by decide) _ _ _ rfl HI9.out.row ⟨w7.heap.size, 0, none⟩ 1 1 [.int .i64 cut, .int .i64 P] rfl rfl ?k9_1 ?k9_2 ?k9_3 ?k9_4 ?k9_5 ?_)
                case k9_1 =>
                  intro j x hx
                  rcases j with _ | _ | j
                  · have e : x = .int .i64 cut := by simpa using hx.symm
                    subst e; go_simp
                  · have e : x = .int .i64 P := by simpa using hx.symm
                    subst e; go_simp
                  · simp at hx
                case k9_2 => intro x hx; simp at hx; rcases hx with rfl | rfl <;> rfl
                case k9_3 => unfold maxLen; omega
                case k9_4 => omega
                case k9_5 => exact HI9.out.below.size
                intro v9 w9 hown hgrow _
                have HIa := Lib.hid (HI9.out.grown (s := ⟨cut, P, 0⟩) (by simpa [ho] using hown) hgrow)
                clear hown hgrow HI9
                go_wp2_with fail
                go_roundw
                case rel => exact ⟨J, J1, by go_num, by rw [HO'.out, E7.out]; exact HIa⟩
                case measure => simp [intOf]; omega
          · have pe := PV2.out hj
            have tj : decide ((J : Int) < (ys.length : Int)) = false := decide_eq_false (by omega)
            obtain rfl : to = P := by have := HPP.out; omega
            clear pe
            rcases split_last out with ho | ⟨pre, s, ho⟩
            · have E7 := Lib.hid (show out' = out ++ [⟨cut, to, 0⟩] by rw [ST.out, FX.out, ho]; exact blk_nil _ _ _)
              have vn : u15 = .slice none 0 0 ∨ ∃ gg cc, u15 = .slice (some ⟨gg, 0, none⟩) 0 cc := by
                rcases HI7.out.row.2 with ⟨e, _⟩ | ⟨gg, cc, _, e, _⟩
                · exact .inl e
                · exact .inr ⟨gg, cc, by rw [e, ho]; rfl⟩
              have O0 : out.length = 0 := by rw [ho]; rfl
              rcases vn with rfl | ⟨gg, cc, rfl⟩
              · clear ST FX PV1 PV2
                have HI9 := Lib.hid (HI7.out.more ((Below.refl w7.heap.size w7).alloc (Nat.le_refl _) (.cells #[.int .i64 cut, .int .i64 to] 56)))
                go_wp2_with (at_builtin; refine wpList_append_own _ rfl _ _ 49 rfl wS.heap.size 56 i0 (.agg #[.int .i64 0, .int .i64 0]) 2 16 Try.underlying49 HQ.out.1 HQ.out.2.1 HQ.out.2.2.1 HQ.out.2.2.2 rfl (by decide) _ _ _ rfl HI9.out.row ⟨w7.heap.size, 0, none⟩ 1 1 [.int .i64 cut, .int .i64 to] rfl rfl ?k10_1 ?k10_2 ?k10_3 ?k10_4 ?k10_5 ?_)
                case k10_1 =>
                  intro j x hx
                  rcases j with _ | _ | j
                  · have e : x = .int .i64 cut := by simpa using hx.symm
                    subst e; go_simp
                  · have e : x = .int .i64 to := by simpa using hx.symm
                    subst e; go_simp
                  · simp at hx
                case k10_2 => intro x hx; simp at hx; rcases hx with rfl | rfl <;> rfl
                case k10_3 => unfold maxLen; omega
                case k10_4 => omega
                case k10_5 => exact HI9.out.below.size
                intro v9 w9 hown hgrow _
                have HIa := Lib.hid (HI9.out.grown (s := ⟨cut, to, 0⟩) (by simpa [ho] using hown) hgrow)
                clear hown hgrow HI9
                go_wp2_with fail
                go_roundw
                case rel => exact ⟨J, J1, by go_num, by rw [HO'.out, E7.out]; exact HIa⟩
                case measure => simp [intOf]; omega
              · clear ST FX PV1 PV2
                have HI9 := Lib.hid (HI7.out.more ((Below.refl w7.heap.size w7).alloc (Nat.le_refl _) (.cells #[.int .i64 cut, .int .i64 to] 56)))
                go_wp2_with (at_builtin; refine wpList_append_own _ rfl _ _ 49 rfl wS.heap.size 56 i0 (.agg #[.int .i64 0, .int .i64 0]) 2 16 Try.underlying49 HQ.out.1 HQ.out.2.1 HQ.out.2.2.1 HQ.out.2.2.2 rfl (by decide) _ _ _ rfl HI9.out.row ⟨w7.heap.size, 0, none⟩ 1 1 [.int .i64 cut, .int .i64 to] rfl rfl ?k11_1 ?k11_2 ?k11_3 ?k11_4 ?k11_5 ?_)
                case k11_1 =>
                  intro j x hx
                  rcases j with _ | _ | j
                  · have e : x = .int .i64 cut := by simpa using hx.symm
                    subst e; go_simp
                  · have e : x = .int .i64 to := by simpa using hx.symm
                    subst e; go_simp
                  · simp at hx
                case k11_2 => intro x hx; simp at hx; rcases hx with rfl | rfl <;> rfl
                case k11_3 => unfold maxLen; omega
                case k11_4 => omega
                case k11_5 => exact HI9.out.below.size
                intro v9 w9 hown hgrow _
                have HIa := Lib.hid (HI9.out.grown (s := ⟨cut, to, 0⟩) (by simpa [ho] using hown) hgrow)
                clear hown hgrow HI9
                go_wp2_with fail
                go_roundw
                case rel => exact ⟨J, J1, by go_num, by rw [HO'.out, E7.out]; exact HIa⟩
                case measure => simp [intOf]; omega
            · have sv : s.va = 0 := VA.out s (by rw [ho]; simp)
              have HI8 := HI7
              rw [ho] at HI8
              obtain ⟨gg, cc, rfl, hcc, _, hgg, zc, zf, hset⟩ := HI8.out.last
              have HS := Lib.hid hset
              by_cases hst : s.to = cut - 1
              · have E7 := Lib.hid (show out' = pre ++ [⟨s.fr, to, s.va⟩] by rw [ST.out, FX.out, ho, sv]; exact blk_join pre s _ _ _ ⟨sv, hst⟩)
                have tt : (s.to == cut - 1) = true := by simpa using hst
                clear ST FX PV1 PV2 hset hst HI8 ho
                generalize s.to = st at *
                have wd : IntKind.i64.wrap (((pre.length + 1 : Nat) : Int) - 1) = (pre.length : Int) := by rw [IntKind.wrap_i64]; omega
                have wd2 : ((pre.length + 1 : Nat) : Int) - 1 = (pre.length : Int) := by omega
                have wd3 : IntKind.i64.wrap (pre.length : Int) = (pre.length : Int) := by rw [IntKind.wrap_i64]; omega
                have td : decide ((0 : Int) < ((pre.length + 1 : Nat) : Int)) = true := decide_eq_true (by omega)
                have dm : (pre.length : Int) < ((pre.length + 1 : Nat) : Int) := by omega
                generalize hm : pre.length + 1 = m at *
                generalize pre.length = D at *
                clear hm
                go_wp2_with fail
                go_roundw
                case rel => exact ⟨J, J1, by go_num, by rw [HO'.out, E7.out]; exact Lib.hid (HS.out _)⟩
                case measure => simp [intOf]; omega
              · have E7 := Lib.hid (show out' = out ++ [⟨cut, to, 0⟩] by rw [ST.out, FX.out, ho]; exact blk_new pre s _ _ _ (fun h => hst h.2))
                have tt : (s.to == cut - 1) = false := by simpa using hst
                clear ST FX PV1 PV2 hset hst HI8 HS
                generalize s.to = st at *
                have O0 : out.length = pre.length + 1 := by rw [ho]; simp
                have wd : IntKind.i64.wrap (((pre.length + 1 : Nat) : Int) - 1) = (pre.length : Int) := by rw [IntKind.wrap_i64]; omega
                have wd2 : ((pre.length + 1 : Nat) : Int) - 1 = (pre.length : Int) := by omega
                have wd3 : IntKind.i64.wrap (pre.length : Int) = (pre.length : Int) := by rw [IntKind.wrap_i64]; omega
                have td : decide ((0 : Int) < ((pre.length + 1 : Nat) : Int)) = true := decide_eq_true (by omega)
                have dm : (pre.length : Int) < ((pre.length + 1 : Nat) : Int) := by omega
                generalize hm : pre.length + 1 = m at *
                generalize pre.length = D at *
                clear hm
                have HI9 := Lib.hid (HI7.out.more ((Below.refl w7.heap.size w7).alloc (Nat.le_refl _) (.cells #[.int .i64 cut, .int .i64 to] 56)))
                go_wp2_with (at_builtin; refine wpList_append_own _ rfl _ _ 49 rfl wS.heap.size 56 i0 (.agg #[.int .i64 0, .int .i64 0]) 2 16 Try.underlying49 HQ.out.1 HQ.out.2.1 HQ.out.2.2.1 HQ.out.2.2.2 rfl (by decide) _ _ _ rfl HI9.out.row ⟨w7.heap.size, 0, none⟩ 1 1 [.int .i64 cut, .int .i64 to] rfl rfl ?k12_1 ?k12_2 ?k12_3 ?k12_4 ?k12_5 ?_)
                case k12_1 =>
                  intro j x hx
                  rcases j with _ | _ | j
                  · have e : x = .int .i64 cut := by simpa using hx.symm
                    subst e; go_simp
                  · have e : x = .int .i64 to := by simpa using hx.symm
                    subst e; go_simp
                  · simp at hx
                case k12_2 => intro x hx; simp at hx; rcases hx with rfl | rfl <;> rfl
                case k12_3 => unfold maxLen; omega
                case k12_4 => omega
                case k12_5 => exact HI9.out.below.size
                intro v9 w9 hown hgrow _
                have HIa := Lib.hid (HI9.out.grown (s := ⟨cut, to, 0⟩) (by simpa [ho] using hown) hgrow)
                clear hown hgrow HI9
                go_wp2_with fail
                go_roundw
                case rel => exact ⟨J, J1, by go_num, by rw [HO'.out, E7.out]; exact HIa⟩
                case measure => simp [intOf]; omega
      · have FX := Lib.hid (FS.out fun h => hp (XE.out h).1)
        have tp : (p == q) = false := by simpa using hp
        clear FN FS OEQ XE
        by_cases hj : J < ys.length
        · obtain ⟨pe, jc⟩ := PV1.out hj
          have yj : w7.cell? ⟨g, off + J, none⟩ = some (.int .i64 ys[J]!) := (HI7.out.below.cell (World.block_lt_of_cell? wS _ jc)).trans jc
          have tj : decide ((J : Int) < (ys.length : Int)) = true := decide_eq_true (by omega)
          have jl : (J : Int) < (ys.length : Int) := by omega
          have pe2 : ys[J]! - 1 = P := by rw [← pe]; exact HPP.out
          have wp : IntKind.i64.wrap (ys[J]! - 1) = P := by rw [IntKind.wrap_i64]; omega
          clear jc pe
          generalize ys[J]! = nx at *
          rcases split_last out with ho | ⟨pre, s, ho⟩
          · have E7 := Lib.hid (show out' = out ++ [⟨cut, P, 0⟩] by rw [ST.out, FX.out, ho]; exact blk_nil _ _ _)
            have vn : u15 = .slice none 0 0 ∨ ∃ gg cc, u15 = .slice (some ⟨gg, 0, none⟩) 0 cc := by
              rcases HI7.out.row.2 with ⟨e, _⟩ | ⟨gg, cc, _, e, _⟩
              · exact .inl e
              · exact .inr ⟨gg, cc, by rw [e, ho]; rfl⟩
            have O0 : out.length = 0 := by rw [ho]; rfl
            rcases vn with rfl | ⟨gg, cc, rfl⟩
            · clear ST FX PV1 PV2
              have HI9 := Lib.hid (HI7.out.more ((Below.refl w7.heap.size w7).alloc (Nat.le_refl _) (.cells #[.int .i64 cut, .int .i64 P] 56)))
              go_wp2_with (at_builtin; refine wpList_append_own _ rfl _ _ 49 rfl wS.heap.size 56 i0 (.agg #[.int .i64 0, .int .i64 0]) 2 16 Try.underlying49 HQ.out.1 HQ.out.2.1 HQ.out.2.2.1 HQ.out.2.2.2 rfl (by decide) _ _ _ rfl HI9.out.row ⟨w7.heap.size, 0, none⟩ 1 1 [.int .i64 cut, .int .i64 P] rfl rfl ?k1_1 ?k1_2 ?k1_3 ?k1_4 ?k1_5 ?_)
              case k1_1 =>
                intro j x hx
                rcases j with _ | _ | j
                · have e : x = .int .i64 cut := by simpa using hx.symm
                  subst e; go_simp
                · have e : x = .int .i64 P := by simpa using hx.symm
                  subst e; go_simp
                · simp at hx
              case k1_2 => intro x hx; simp at hx; rcases hx with rfl | rfl <;> rfl
              case k1_3 => unfold maxLen; omega
              case k1_4 => omega
              case k1_5 => exact HI9.out.below.size
              intro v9 w9 hown hgrow _
              have HIa := Lib.hid (HI9.out.grown (s := ⟨cut, P, 0⟩) (by simpa [ho] using hown) hgrow)
              clear hown hgrow HI9
              go_wp2_with fail
              go_roundw
              case rel => exact ⟨J, J1, by go_num, by rw [HO'.out, E7.out]; exact HIa⟩
              case measure => simp [intOf]; omega
            · clear ST FX PV1 PV2
              have HI9 := Lib.hid (HI7.out.more ((Below.refl w7.heap.size w7).alloc (Nat.le_refl _) (.cells #[.int .i64 cut, .int .i64 P] 56)))
              go_wp2_with (at_builtin; refine wpList_append_own _ rfl _ _ 49 rfl wS.heap.size 56 i0 (.agg #[.int .i64 0, .int .i64 0]) 2 16 Try.underlying49 HQ.out.1 HQ.out.2.1 HQ.out.2.2.1 HQ.out.2.2.2 rfl (by decide) _ _ _ rfl HI9.out.row ⟨w7.heap.size, 0, none⟩ 1 1 [.int .i64 cut, .int .i64 P] rfl rfl ?k2_1 ?k2_2 ?k2_3 ?k2_4 ?k2_5 ?_)
              case k2_1 =>
                intro j x hx
                rcases j with _ | _ | j
                · have e : x = .int .i64 cut := by simpa using hx.symm
                  subst e; go_simp
                · have e : x = .int .i64 P := by simpa using hx.symm
                  subst e; go_simp
                · simp at hx
              case k2_2 => intro x hx; simp at hx; rcases hx with rfl | rfl <;> rfl
              case k2_3 => unfold maxLen; omega
              case k2_4 => omega
              case k2_5 => exact HI9.out.below.size
              intro v9 w9 hown hgrow _
              have HIa := Lib.hid (HI9.out.grown (s := ⟨cut, P, 0⟩) (by simpa [ho] using hown) hgrow)
              clear hown hgrow HI9
              go_wp2_with fail
              go_roundw
              case rel => exact ⟨J, J1, by go_num, by rw [HO'.out, E7.out]; exact HIa⟩
              case measure => simp [intOf]; omega
          · have sv : s.va = 0 := VA.out s (by rw [ho]; simp)
            have HI8 := HI7
            rw [ho] at HI8
            obtain ⟨gg, cc, rfl, hcc, _, hgg, zc, zf, hset⟩ := HI8.out.last
            have HS := Lib.hid hset
            by_cases hst : s.to = cut - 1
            · have E7 := Lib.hid (show out' = pre ++ [⟨s.fr, P, s.va⟩] by rw [ST.out, FX.out, ho, sv]; exact blk_join pre s _ _ _ ⟨sv, hst⟩)
              have tt : (s.to == cut - 1) = true := by simpa using hst
              clear ST FX PV1 PV2 hset hst HI8 ho
              generalize s.to = st at *
              have wd : IntKind.i64.wrap (((pre.length + 1 : Nat) : Int) - 1) = (pre.length : Int) := by rw [IntKind.wrap_i64]; omega
              have wd2 : ((pre.length + 1 : Nat) : Int) - 1 = (pre.length : Int) := by omega
              have wd3 : IntKind.i64.wrap (pre.length : Int) = (pre.length : Int) := by rw [IntKind.wrap_i64]; omega
              have td : decide ((0 : Int) < ((pre.length + 1 : Nat) : Int)) = true := decide_eq_true (by omega)
              have dm : (pre.length : Int) < ((pre.length + 1 : Nat) : Int) := by omega
              generalize hm : pre.length + 1 = m at *
              generalize pre.length = D at *
              clear hm
              go_wp2_with fail
              go_roundw
              case rel => exact ⟨J, J1, by go_num, by rw [HO'.out, E7.out]; exact Lib.hid (HS.out _)⟩
              case measure => simp [intOf]; omega
            · have E7 := Lib.hid (show out' = out ++ [⟨cut, P, 0⟩] by rw [ST.out, FX.out, ho]; exact blk_new pre s _ _ _ (fun h => hst h.2))
              have tt : (s.to == cut - 1) = false := by simpa using hst
              clear ST FX PV1 PV2 hset hst HI8 HS
              generalize s.to = st at *
              have O0 : out.length = pre.length + 1 := by rw [ho]; simp
              have wd : IntKind.i64.wrap (((pre.length + 1 : Nat) : Int) - 1) = (pre.length : Int) := by rw [IntKind.wrap_i64]; omega
              have wd2 : ((pre.length + 1 : Nat) : Int) - 1 = (pre.length : Int) := by omega
              have wd3 : IntKind.i64.wrap (pre.length : Int) = (pre.length : Int) := by rw [IntKind.wrap_i64]; omega
              have td : decide ((0 : Int) < ((pre.length + 1 : Nat) : Int)) = true := decide_eq_true (by omega)
              have dm : (pre.length : Int) < ((pre.length + 1 : Nat) : Int) := by omega
              generalize hm : pre.length + 1 = m at *
              generalize pre.length = D at *
              clear hm
              have HI9 := Lib.hid (HI7.out.more ((Below.refl w7.heap.size w7).alloc (Nat.le_refl _) (.cells #[.int .i64 cut, .int .i64 P] 56)))
              go_wp2_with (at_builtin; refine wpList_append_own _ rfl _ _ 49 rfl wS.heap.size 56 i0 (.agg #[.int .i64 0, .int .i64 0]) 2 16 Try.underlying49 HQ.out.1 HQ.out.2.1 HQ.out.2.2.1 HQ.out.2.2.2 rfl (by decide) _ _ _ rfl HI9.out.row ⟨w7.heap.size, 0, none⟩ 1 1 [.int .i64 cut, .int .i64 P] rfl rfl ?k3_1 ?k3_2 ?k3_3 ?k3_4 ?k3_5 ?_)
              case k3_1 =>
                intro j x hx
                rcases j with _ | _ | j
                · have e : x = .int .i64 cut := by simpa using hx.symm
                  subst e; go_simp
                · have e : x = .int .i64 P := by simpa using hx.symm
                  subst e; go_simp
                · simp at hx
              case k3_2 => intro x hx; simp at hx; rcases hx with rfl | rfl <;> rfl
              case k3_3 => unfold maxLen; omega
              case k3_4 => omega
              case k3_5 => exact HI9.out.below.size
              intro v9 w9 hown hgrow _
              have HIa := Lib.hid (HI9.out.grown (s := ⟨cut, P, 0⟩) (by simpa [ho] using hown) hgrow)
              clear hown hgrow HI9
              go_wp2_with fail
              go_roundw
              case rel => exact ⟨J, J1, by go_num, by rw [HO'.out, E7.out]; exact HIa⟩
              case measure => simp [intOf]; omega
        · have pe := PV2.out hj
          have tj : decide ((J : Int) < (ys.length : Int)) = false := decide_eq_false (by omega)
          obtain rfl : to = P := by have := HPP.out; omega
          clear pe
          rcases split_last out with ho | ⟨pre, s, ho⟩
          · have E7 := Lib.hid (show out' = out ++ [⟨cut, to, 0⟩] by rw [ST.out, FX.out, ho]; exact blk_nil _ _ _)
            have vn : u15 = .slice none 0 0 ∨ ∃ gg cc, u15 = .slice (some ⟨gg, 0, none⟩) 0 cc := by
              rcases HI7.out.row.2 with ⟨e, _⟩ | ⟨gg, cc, _, e, _⟩
              · exact .inl e
              · exact .inr ⟨gg, cc, by rw [e, ho]; rfl⟩
            have O0 : out.length = 0 := by rw [ho]; rfl
            rcases vn with rfl | ⟨gg, cc, rfl⟩
            · clear ST FX PV1 PV2
              have HI9 := Lib.hid (HI7.out.more ((Below.refl w7.heap.size w7).alloc (Nat.le_refl _) (.cells #[.int .i64 cut, .int .i64 to] 56)))
              go_wp2_with (at_builtin; refine wpList_append_own _ rfl _ _ 49 rfl wS.heap.size 56 i0 (.agg #[.int .i64 0, .int .i64 0]) 2 16 Try.underlying49 HQ.out.1 HQ.out.2.1 HQ.out.2.2.1 HQ.out.2.2.2 rfl (by decide) _ _ _ rfl HI9.out.row ⟨w7.heap.size, 0, none⟩ 1 1 [.int .i64 cut, .int .i64 to] rfl rfl ?k4_1 ?k4_2 ?k4_3 ?k4_4 ?k4_5 ?_)
              case k4_1 =>
                intro j x hx
                rcases j with _ | _ | j
                · have e : x = .int .i64 cut := by simpa using hx.symm
                  subst e; go_simp
                · have e : x = .int .i64 to := by simpa using hx.symm
                  subst e; go_simp
                · simp at hx
              case k4_2 => intro x hx; simp at hx; rcases hx with rfl | rfl <;> rfl
              case k4_3 => unfold maxLen; omega
              case k4_4 => omega
              case k4_5 => exact HI9.out.below.size
              intro v9 w9 hown hgrow _
              have HIa := Lib.hid (HI9.out.grown (s := ⟨cut, to, 0⟩) (by simpa [ho] using hown) hgrow)
              clear hown hgrow HI9
              go_wp2_with fail
              go_roundw
              case rel => exact ⟨J, J1, by go_num, by rw [HO'.out, E7.out]; exact HIa⟩
              case measure => simp [intOf]; omega
            · clear ST FX PV1 PV2
              have HI9 := Lib.hid (HI7.out.more ((Below.refl w7.heap.size w7).alloc (Nat.le_refl _) (.cells #[.int .i64 cut, .int .i64 to] 56)))
              go_wp2_with (at_builtin; refine wpList_append_own _ rfl _ _ 49 rfl wS.heap.size 56 i0 (.agg #[.int .i64 0, .int .i64 0]) 2 16 Try.underlying49 HQ.out.1 HQ.out.2.1 HQ.out.2.2.1 HQ.out.2.2.2 rfl (by decide) _ _ _ rfl HI9.out.row ⟨w7.heap.size, 0, none⟩ 1 1 [.int .i64 cut, .int .i64 to] rfl rfl ?k5_1 ?k5_2 ?k5_3 ?k5_4 ?k5_5 ?_)
              case k5_1 =>
                intro j x hx
                rcases j with _ | _ | j
                · have e : x = .int .i64 cut := by simpa using hx.symm
                  subst e; go_simp
                · have e : x = .int .i64 to := by simpa using hx.symm
                  subst e; go_simp
                · simp at hx
              case k5_2 => intro x hx; simp at hx; rcases hx with rfl | rfl <;> rfl
              case k5_3 => unfold maxLen; omega
              case k5_4 => omega
              case k5_5 => exact HI9.out.below.size
              intro v9 w9 hown hgrow _
              have HIa := Lib.hid (HI9.out.grown (s := ⟨cut, to, 0⟩) (by simpa [ho] using hown) hgrow)
              clear hown hgrow HI9
              go_wp2_with fail
              go_roundw
              case rel => exact ⟨J, J1, by go_num, by rw [HO'.out, E7.out]; exact HIa⟩
              case measure => simp [intOf]; omega
          · have sv : s.va = 0 := VA.out s (by rw [ho]; simp)
            have HI8 := HI7
            rw [ho] at HI8
            obtain ⟨gg, cc, rfl, hcc, _, hgg, zc, zf, hset⟩ := HI8.out.last
            have HS := Lib.hid hset
            by_cases hst : s.to = cut - 1
            · have E7 := Lib.hid (show out' = pre ++ [⟨s.fr, to, s.va⟩] by rw [ST.out, FX.out, ho, sv]; exact blk_join pre s _ _ _ ⟨sv, hst⟩)
              have tt : (s.to == cut - 1) = true := by simpa using hst
              clear ST FX PV1 PV2 hset hst HI8 ho
              generalize s.to = st at *
              have wd : IntKind.i64.wrap (((pre.length + 1 : Nat) : Int) - 1) = (pre.length : Int) := by rw [IntKind.wrap_i64]; omega
              have wd2 : ((pre.length + 1 : Nat) : Int) - 1 = (pre.length : Int) := by omega
              have wd3 : IntKind.i64.wrap (pre.length : Int) = (pre.length : Int) := by rw [IntKind.wrap_i64]; omega
              have td : decide ((0 : Int) < ((pre.length + 1 : Nat) : Int)) = true := decide_eq_true (by omega)
              have dm : (pre.length : Int) < ((pre.length + 1 : Nat) : Int) := by omega
              generalize hm : pre.length + 1 = m at *
              generalize pre.length = D at *
              clear hm
              go_wp2_with fail
              go_roundw
              case rel => exact ⟨J, J1, by go_num, by rw [HO'.out, E7.out]; exact Lib.hid (HS.out _)⟩
              case measure => simp [intOf]; omega
            · have E7 := Lib.hid (show out' = out ++ [⟨cut, to, 0⟩] by rw [ST.out, FX.out, ho]; exact blk_new pre s _ _ _ (fun h => hst h.2))
              have tt : (s.to == cut - 1) = false := by simpa using hst
              clear ST FX PV1 PV2 hset hst HI8 HS
              generalize s.to = st at *
              have O0 : out.length = pre.length + 1 := by rw [ho]; simp
              have wd : IntKind.i64.wrap (((pre.length + 1 : Nat) : Int) - 1) = (pre.length : Int) := by rw [IntKind.wrap_i64]; omega
              have wd2 : ((pre.length + 1 : Nat) : Int) - 1 = (pre.length : Int) := by omega
              have wd3 : IntKind.i64.wrap (pre.length : Int) = (pre.length : Int) := by rw [IntKind.wrap_i64]; omega
              have td : decide ((0 : Int) < ((pre.length + 1 : Nat) : Int)) = true := decide_eq_true (by omega)
              have dm : (pre.length : Int) < ((pre.length + 1 : Nat) : Int) := by omega
              generalize hm : pre.length + 1 = m at *
              generalize pre.length = D at *
              clear hm
              have HI9 := Lib.hid (HI7.out.more ((Below.refl w7.heap.size w7).alloc (Nat.le_refl _) (.cells #[.int .i64 cut, .int .i64 to] 56)))
              go_wp2_with (at_builtin; refine wpList_append_own _ rfl _ _ 49 rfl wS.heap.size 56 i0 (.agg #[.int .i64 0, .int .i64 0]) 2 16 Try.underlying49 HQ.out.1 HQ.out.2.1 HQ.out.2.2.1 HQ.out.2.2.2 rfl (by decide) _ _ _ rfl HI9.out.row ⟨w7.heap.size, 0, none⟩ 1 1 [.int .i64 cut, .int .i64 to] rfl rfl ?k6_1 ?k6_2 ?k6_3 ?k6_4 ?k6_5 ?_)
              case k6_1 =>
                intro j x hx
                rcases j with _ | _ | j
                · have e : x = .int .i64 cut := by simpa using hx.symm
                  subst e; go_simp
                · have e : x = .int .i64 to := by simpa using hx.symm
                  subst e; go_simp
                · simp at hx
              case k6_2 => intro x hx; simp at hx; rcases hx with rfl | rfl <;> rfl
              case k6_3 => unfold maxLen; omega
              case k6_4 => omega
              case k6_5 => exact HI9.out.below.size
              intro v9 w9 hown hgrow _
              have HIa := Lib.hid (HI9.out.grown (s := ⟨cut, to, 0⟩) (by simpa [ho] using hown) hgrow)
              clear hown hgrow HI9
              go_wp2_with fail
              go_roundw
              case rel => exact ⟨J, J1, by go_num, by rw [HO'.out, E7.out]; exact HIa⟩
              case measure => simp [intOf]; omega
    · obtain rfl : i = ys.length := by omega
      have t0 : decide ((ys.length : Int) < (ys.length : Int)) = false := decide_eq_false (by omega)
      obtain ⟨x9, c9, rfl, hrow⟩ := HI.out.done
      have HRW := Lib.hid hrow
      clear hrow
      go_wp2
      go_ret2
      refine ⟨x9, c9, by rw [EA.out, EC.out]; rfl, fun h0 => ?_, B5.out.trans (HI.out.below.mono B5.out.size)⟩
      rw [EA.out] at h0
      obtain ⟨g9, e1, e2, e3, e4⟩ := HRW.out h0
      exact ⟨g9, e1, Nat.le_trans B5.out.size e2, e3, by rw [EA.out]; exact e4⟩
end Go.Proofs.Ytdpgmjmmnjbbiaa.Tl
