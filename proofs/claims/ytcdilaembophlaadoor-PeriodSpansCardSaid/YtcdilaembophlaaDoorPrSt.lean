/-
  slices.symMergeCmpFunc at elements of one cell: where neither range has one element, its callees under contract. Conditions: the comparison's own contract; both ranges in order.
-/
import Derived.Test.YtcdilaembophlaaDoorPrSs
import Derived.Shelf.SlSortCmp.QuietGrown
import Derived.Deep.CutRange
import Derived.Deep.DeepCutAuto
namespace Go.Proofs.YtcdilaembophlaaDoor
open Go Go.RowKit Go.Lib Go.Sort Go.Shelf Go.Proofs Go.Proofs.YtcdilaembophlaaDoor.Mg
set_option linter.unusedVariables false

section
variable {α : Type} [Inhabited α]
variable {prec Rr : α → α → Prop}
set_option maxHeartbeats 16000000 in
set_option maxRecDepth 100000 in
theorem sym_deep (enc : α → Value) (cf : α → α → Int) (g : Nat) (cb : Array Value) (blk off cap sz a m b : Nat) (d0 : Array α) (f : Nat → α) (w0 w : World) (eg : ∀ args w, (callFunc g args).run Tryd.prog w = .ok (.enter g args) w)
    (O : Ord prec Rr (ltOf cf)) (hcmp : CmpLays1 Tryd.prog g cb enc cf blk off sz w0) (R : Row1 enc w0 blk off d0) (hs : d0.size = sz) (S : Rw enc w0 blk off sz f w) (hb : b ≤ sz) (hsz : sz < 4611686018427387904) (ham : a + 1 < m) (hmb : m + 1 < b)
    (hA : Srt prec f a m) (hB : Srt prec f m b) (hx : Crs Rr f a m b)
    (IH : ∀ (a' m' b' : Nat) (f' : Nat → α) (w' : World), a' < m' → m' < b' → b' - a' < b - a → b' ≤ sz → Rw enc w0 blk off sz f' w' → Srt prec f' a' m' → Srt prec f' m' b' → Crs Rr f' a' m' b' →
      Calls Tryd.prog 72 #[.slice (some ⟨blk, off, none⟩) sz cap, .int .i64 a', .int .i64 m', .int .i64 b', .func (.func g) #[] cb] w' (SymR prec enc w0 blk off sz f' a' b')) :
    Calls Tryd.prog 72 #[.slice (some ⟨blk, off, none⟩) sz cap, .int .i64 a, .int .i64 m, .int .i64 b, .func (.func g) #[] cb] w (SymR prec enc w0 blk off sz f a b) := by
  have hcl0 := R.hO.cells
  simp only [Value.cells] at hcl0
  have hst := R.hO.store Tryd.prog
  have mixed : Tryd.prog.follows .mixedOrders = true := by kernel_rfl
  have HRW := Lib.hid R
  have HC := Lib.hid hcmp
  have HO := Lib.hid O
  have HS := Lib.hid S
  clear S R hcmp O
  have HIH := Lib.hid IH
  have HSA := Lib.hid hA
  have HSB := Lib.hid hB
  have HX := Lib.hid hx
  clear hA hB hx IH
  have t0 : ((m : Int) - (a : Int) == 1) = false := by simp; omega
  have t1 : ((b : Int) - (m : Int) == 1) = false := by simp; omega
  have hrz : IntKind.i64.wrap ((a : Int) + (b : Int)) = (a : Int) + (b : Int) := by rw [IntKind.wrap_i64]; omega
  obtain ⟨M, hM1⟩ : ∃ M : Nat, ((a : Int) + (b : Int)) / 2 = (M : Int) := ⟨(a + b) / 2, by omega⟩
  have hM2 : 2 * M ≤ a + b := by omega
  have hM3 : a + b ≤ 2 * M + 1 := by omega
  go_enter Tryd.func72, Tryd.ntmps72
  go_upto_if 140 with fail
  go_cut [20, 21] from 141 to 146 (fun x y wx => ∃ s0 r0 : Nat, x = .int .i64 s0 ∧ y = .int .i64 r0 ∧ a ≤ s0 ∧ s0 ≤ r0 ∧ r0 ≤ m ∧ r0 ≤ M ∧ M + m ≤ s0 + b ∧ Hid ((s0 = a ∨ s0 + b = M + m) ∧ (r0 = m ∨ r0 = M)) ∧ Hid (Rw enc w0 blk off sz f wx))
  case first =>
    by_cases hd : M < m
    · have hdz : decide ((M : Int) < (m : Int)) = true := decide_eq_true (by omega)
      go_wp2_with fail
      go_meet
      exact ⟨M + m - b, M, by congr 1; omega, rfl, by omega, by omega, by omega, by omega, by omega, Lib.hid ⟨.inr (by omega), .inr rfl⟩, HS⟩
    · have hdz : decide ((M : Int) < (m : Int)) = false := decide_eq_false (by omega)
      go_wp2_with fail
      go_meet
      exact ⟨a, m, rfl, rfl, by omega, by omega, by omega, by omega, by omega, Lib.hid ⟨.inl rfl, .inl rfl⟩, HS⟩
  case rest =>
    clear HS
    obtain ⟨s0, r0, rfl, rfl, b1, b2, b3, b4, b5, HE, HS⟩ := hcut
    go_wp2_with fail
    go_loopg [20, 21] (r0 - s0) (fun g1 vi vj wr => ∃ (s r : Nat), vi = .int .i64 s ∧ vj = .int .i64 r ∧ s0 ≤ s ∧ s ≤ r ∧ r ≤ r0 ∧ r - s ≤ g1 ∧ Hid (Cut prec f (M + m - 1) s0 s r r0) ∧ Hid (Rw enc w0 blk off sz f wr))
    case atStart => exact ⟨s0, r0, rfl, rfl, by omega, by omega, by omega, Nat.le_refl _, Lib.hid Cut.start, HS⟩
    case round =>
      clear HS
      obtain ⟨s, r, rfl, rfl, c1, c2, c3, hg, HI, HR⟩ := hrel
      by_cases hlt : s < r
      · obtain ⟨dk, hsk, hfk, S1'⟩ := HR.out
        have S1 := Lib.hid S1'
        have HF := Lib.hid hfk
        clear S1' hfk
        have hltz : (s : Int) < (r : Int) := by omega
        have hrz2 : IntKind.i64.wrap ((s : Int) + (r : Int)) = (s : Int) + (r : Int) := by rw [IntKind.wrap_i64]; omega
        obtain ⟨C, hC1⟩ : ∃ C : Nat, ((s : Int) + (r : Int)) / 2 = (C : Int) := ⟨(s + r) / 2, by omega⟩
        have hC2 : s ≤ C := by omega
        have hC3 : C < r := by omega
        obtain ⟨D, hD1⟩ : ∃ D : Nat, D = M + m - 1 - C := ⟨_, rfl⟩
        have rD : IntKind.i64.wrap ((M : Int) + (m : Int) - 1 - (C : Int)) = (D : Int) := by rw [IntKind.wrap_i64]; omega
        have rD2 : (M : Int) + (m : Int) - 1 - (C : Int) = (D : Int) := by omega
        obtain ⟨iN1, hiN1⟩ : ∃ q, q = D := ⟨_, rfl⟩
        obtain ⟨jN1, hjN1⟩ : ∃ q, q = C := ⟨_, rfl⟩
        have ea1 : ((D : Int)).toNat = iN1 := by omega
        have pa1 : (0 : Int) ≤ (D : Int) := by omega
        have ba1 : (D : Int) < (sz : Int) := by omega
        have ra1 : IntKind.i64.wrap ((D : Int)) = (D : Int) := by rw [IntKind.wrap_i64]; omega
        have ec1 : ((C : Int)).toNat = jN1 := by omega
        have pc1 : (0 : Int) ≤ (C : Int) := by omega
        have bc1 : (C : Int) < (sz : Int) := by omega
        have rc1 : IntKind.i64.wrap ((C : Int)) = (C : Int) := by rw [IntKind.wrap_i64]; omega
        obtain ⟨x1, hx1⟩ : ∃ x, x = dk[D]! := ⟨_, rfl⟩
        obtain ⟨y1, hy1⟩ : ∃ x, x = dk[C]! := ⟨_, rfl⟩
        have l1a := S1.out.cl HRW.out (by omega) (D) (by omega)
        have l1b := S1.out.cl HRW.out (by omega) (C) (by omega)
        rw [← hx1, ← hiN1] at l1a
        rw [← hy1, ← hjN1] at l1b
        have hc1 := S1.out.cmp HC.out (by omega) x1 y1
        rw [hD1] at hx1
        clear hD1
        have HX1 : Hid (x1 = f (M + m - 1 - C) ∧ y1 = f C) := Lib.hid ⟨hx1.trans (congrFun HF.out (M + m - 1 - C)), hy1.trans (congrFun HF.out C)⟩
        clear hx1 hy1 hiN1 hjN1
        obtain ⟨q, hd1⟩ : ∃ q : Bool, decide (cf x1 y1 < 0) = q := ⟨_, rfl⟩
        have HQ1 : Hid (decide (cf x1 y1 < 0) = q) := Lib.hid hd1
        go_wp2_with fail
        go_quiet_grown (first | (go_at_fn g; refine Calls.grown_of (hc1 _ _)))
        have S2 : Hid (Rw enc w0 blk off sz f (grow (wr.drewN nq) osq)) := Lib.hid ⟨dk, hsk, HF.out, S1.out.grown nq osq⟩
        clear l1a l1b hc1 S1 HR hd1
        generalize grow (wr.drewN nq) osq = w2 at S2 ⊢
        clear nq osq
        clear ea1 ec1
        rcases q with _ | _
        · have hv : ltOf cf x1 y1 = false := HQ1.out
          rw [HX1.out.1, HX1.out.2] at hv
          have HI2 : Hid (Cut prec f (M + m - 1) s0 (C + 1) r r0) := Lib.hid (HI.out.up HO.out HSA.out HSB.out HX.out b1 (by omega) (by omega) b3 (by omega) (by omega) hv)
          clear HI hv HQ1 HX1
          go_wp2_with fail
          go_roundg (r - (C + 1))
          case measure => omega
          case rel => exact ⟨C + 1, r, by go_num, rfl, by omega, by omega, c3, Nat.le_refl _, HI2, S2⟩
        · have hv : ltOf cf x1 y1 = true := HQ1.out
          rw [HX1.out.1, HX1.out.2] at hv
          have HI2 : Hid (Cut prec f (M + m - 1) s0 s C r0) := Lib.hid (HI.out.down HO.out HSA.out HSB.out HX.out b1 (by omega) (by omega) b3 (by omega) (by omega) hv)
          clear HI hv HQ1 HX1
          go_wp2_with fail
          go_roundg (C - s)
          case measure => omega
          case rel => exact ⟨s, C, rfl, rfl, c1, by omega, by omega, Nat.le_refl _, HI2, S2⟩
      · obtain rfl : r = s := by omega
        have HP : Hid (Pcs prec Rr f (rotR f r m (M + m - r)) a r M (M + m - r) b) := Lib.hid (pcs HSA.out HSB.out HX.out (by omega) (by omega) (by omega) (by omega)
          (fun i j p q u v => cut_x1 HO.out HSA.out HSB.out b1 c1 c3 b3 b4 HI.out HE.out.1 p q u v) (fun i j p q u v => cut_x2 HO.out HSA.out HSB.out b1 c1 c3 b3 b4 HI.out HE.out.2 (by omega) p q u v))
        clear HI HE HSA HSB HX
        obtain ⟨e, he1⟩ : ∃ e : Nat, (M : Int) + (m : Int) - (r : Int) = (e : Int) := ⟨M + m - r, by omega⟩
        have he2 : M + m - r = e := by omega
        rw [he2] at HP
        have q0 : a ≤ r := by omega
        have q1 : r ≤ m := by omega
        have q2 : r ≤ M := by omega
        have q3 : m ≤ e := by omega
        have q4 : M ≤ e := by omega
        have q5 : e ≤ b := by omega
        have q6 : a < M := by omega
        have q7 : M < b := by omega
        clear he2 b1 b2 b3 b4 b5 c1 c2 c3 hlt hg hM2 hM3
        go_upto_region 39 with fail
        go_cut [185] from 178 to 184 (fun x wx => ∃ q : Bool, x = .bool q ∧ Hid (q = true → r < m ∧ m < e) ∧ Hid (q = false → r = m ∨ m = e) ∧ wx = wr)
        case first =>
          by_cases h1 : r < m
          · by_cases h2 : m < e
            · have t2 : decide ((r : Int) < (m : Int)) = true := decide_eq_true (by omega)
              have t3 : decide ((m : Int) < (e : Int)) = true := decide_eq_true (by omega)
              go_wp2_with fail
              go_meet
              exact ⟨true, rfl, Lib.hid (fun _ => ⟨h1, h2⟩), Lib.hid (fun c => by cases c), rfl⟩
            · have t2 : decide ((r : Int) < (m : Int)) = true := decide_eq_true (by omega)
              have t3 : decide ((m : Int) < (e : Int)) = false := decide_eq_false (by omega)
              go_wp2_with fail
              go_meet
              exact ⟨false, rfl, Lib.hid (fun c => by cases c), Lib.hid (fun _ => .inr (by omega)), rfl⟩
          · have t2 : decide ((r : Int) < (m : Int)) = false := decide_eq_false (by omega)
            go_wp2_with fail
            go_meet
            exact ⟨false, rfl, Lib.hid (fun c => by cases c), Lib.hid (fun _ => .inl (by omega)), rfl⟩
        case rest =>
          obtain ⟨q, rfl, HQ, HQ', rfl⟩ := hcut
          go_upto_if 185 with fail
          go_cut [24] from 186 to 191 (fun x wx => x = .int .i64 e ∧ Hid (Rw enc w0 blk off sz (rotR f r m e) wx))
          case first =>
            rcases q with _ | _
            · have e2 : rotR f r m e = f := by
                rcases HQ'.out rfl with h | h
                · rw [h]; exact rot_none1 f m e
                · rw [← h]; exact rot_none2 f r m q1
              go_wp2_with fail
              go_meet
              exact ⟨rfl, by rw [e2]; exact HR⟩
            · obtain ⟨h1, h2⟩ := HQ.out rfl
              go_wp2_with fail
              refine (rotate_s enc _ blk off cap sz r m e d0 f w0 _ HRW.out hs HR.out h1 h2 (by omega) hsz).mono ?_
              rintro z w2 ⟨rfl, hw2⟩
              have HR2 := Lib.hid hw2
              clear hw2
              go_wp2_with fail
              go_meet
              exact ⟨rfl, HR2⟩
          case rest =>
            clear HQ HQ' HR
            obtain ⟨rfl, HR⟩ := hcut
            have HG := Lib.hid (Eq.refl (rotR f r m e))
            generalize rotR f r m e = G at HP HR
            clear HG
            go_upto_region 41 with fail
            go_cut [199] from 192 to 198 (fun x wx => ∃ q : Bool, x = .bool q ∧ Hid (q = true → a < r ∧ r < M) ∧ Hid (q = false → r ≤ a ∨ M ≤ r) ∧ wx = wc)
            case first =>
              by_cases h1 : a < r
              · by_cases h2 : r < M
                · have t2 : decide ((a : Int) < (r : Int)) = true := decide_eq_true (by omega)
                  have t3 : decide ((r : Int) < (M : Int)) = true := decide_eq_true (by omega)
                  go_wp2_with fail
                  go_meet
                  exact ⟨true, rfl, Lib.hid (fun _ => ⟨h1, h2⟩), Lib.hid (fun c => by cases c), rfl⟩
                · have t2 : decide ((a : Int) < (r : Int)) = true := decide_eq_true (by omega)
                  have t3 : decide ((r : Int) < (M : Int)) = false := decide_eq_false (by omega)
                  go_wp2_with fail
                  go_meet
                  exact ⟨false, rfl, Lib.hid (fun c => by cases c), Lib.hid (fun _ => .inr (by omega)), rfl⟩
              · have t2 : decide ((a : Int) < (r : Int)) = false := decide_eq_false (by omega)
                go_wp2_with fail
                go_meet
                exact ⟨false, rfl, Lib.hid (fun c => by cases c), Lib.hid (fun _ => .inl (by omega)), rfl⟩
            case rest =>
              obtain ⟨q, rfl, HQ, HQ', rfl⟩ := hcut
              go_upto_if 199 with fail
              go_cut [24] from 200 to 205 (fun x wx => x = .int .i64 e ∧ ∃ G1, Hid (Mrg prec G G1 a M) ∧ Hid (Rw enc w0 blk off sz G1 wx))
              case first =>
                rcases q with _ | _
                · have hM := Lib.hid (HP.out.skip1 (HQ'.out rfl) q0 q2)
                  go_wp2_with fail
                  go_meet
                  exact ⟨rfl, G, hM, HR⟩
                · obtain ⟨h1, h2⟩ := HQ.out rfl
                  go_wp2_with fail
                  refine (HIH.out a r M G _ h1 h2 (by omega) (by omega) HR.out HP.out.s1 HP.out.s2 HP.out.x1).mono ?_
                  rintro z w2 ⟨rfl, G1, hm2, hw2⟩
                  have HR2 := Lib.hid hw2
                  have HM2 := Lib.hid hm2
                  clear hw2 hm2
                  go_wp2_with fail
                  go_meet
                  exact ⟨rfl, G1, HM2, HR2⟩
              case rest =>
                clear HQ HQ' HR
                obtain ⟨rfl, G1, HM1, HR⟩ := hcut
                go_upto_region 43 with fail
                go_cut [213] from 206 to 212 (fun x wx => ∃ q : Bool, x = .bool q ∧ Hid (q = true → M < e ∧ e < b) ∧ Hid (q = false → e ≤ M ∨ b ≤ e) ∧ wx = wc)
                case first =>
                  by_cases h1 : M < e
                  · by_cases h2 : e < b
                    · have t2 : decide ((M : Int) < (e : Int)) = true := decide_eq_true (by omega)
                      have t3 : decide ((e : Int) < (b : Int)) = true := decide_eq_true (by omega)
                      go_wp2_with fail
                      go_meet
                      exact ⟨true, rfl, Lib.hid (fun _ => ⟨h1, h2⟩), Lib.hid (fun c => by cases c), rfl⟩
                    · have t2 : decide ((M : Int) < (e : Int)) = true := decide_eq_true (by omega)
                      have t3 : decide ((e : Int) < (b : Int)) = false := decide_eq_false (by omega)
                      go_wp2_with fail
                      go_meet
                      exact ⟨false, rfl, Lib.hid (fun c => by cases c), Lib.hid (fun _ => .inr (by omega)), rfl⟩
                  · have t2 : decide ((M : Int) < (e : Int)) = false := decide_eq_false (by omega)
                    go_wp2_with fail
                    go_meet
                    exact ⟨false, rfl, Lib.hid (fun c => by cases c), Lib.hid (fun _ => .inl (by omega)), rfl⟩
                case rest =>
                  obtain ⟨q, rfl, HQ, HQ', rfl⟩ := hcut
                  rcases q with _ | _
                  · have hM := HP.out.skip2 HM1.out (HQ'.out rfl) q4 q5
                    go_wp2_with fail
                    go_end0
                    exact ⟨rfl, G1, HP.out.whole HM1.out hM (by omega) (by omega), HR.out⟩
                  · obtain ⟨h1, h2⟩ := HQ.out rfl
                    have o1 : ∀ k, M ≤ k → k < b → G1 k = G k := fun k hk _ => HM1.out.out k (.inr hk)
                    have HO1 := Lib.hid o1
                    clear o1
                    go_wp2_with fail
                    refine (HIH.out M e b G1 _ h1 h2 (by omega) (by omega) HR.out (srt_congr HP.out.s3 (fun k hk hk' => HO1.out k hk (by omega))) (srt_congr HP.out.s4 (fun k hk hk' => HO1.out k (by omega) hk')) (crs_congr HP.out.x2 (fun k hk hk' => HO1.out k hk hk'))).mono ?_
                    rintro z w2 ⟨rfl, G2, hm2, hw2⟩
                    go_wp2_with fail
                    go_end0
                    exact ⟨rfl, G2, HP.out.whole HM1.out hm2 (by omega) (by omega), hw2⟩

/-- slices.symMergeCmpFunc merges. -/
theorem sym_any (enc : α → Value) (cf : α → α → Int) (g : Nat) (cb : Array Value) (blk off cap sz : Nat) (d0 : Array α) (w0 : World) (eg : ∀ args w, (callFunc g args).run Tryd.prog w = .ok (.enter g args) w)
    (O : Ord prec Rr (ltOf cf)) (hcmp : CmpLays1 Tryd.prog g cb enc cf blk off sz w0) (R : Row1 enc w0 blk off d0) (hs : d0.size = sz) (hsz : sz < 4611686018427387904) :
    ∀ (N a m b : Nat) (f : Nat → α) (w : World), a < m → m < b → b - a ≤ N → b ≤ sz → Rw enc w0 blk off sz f w → Srt prec f a m → Srt prec f m b → Crs Rr f a m b →
      Calls Tryd.prog 72 #[.slice (some ⟨blk, off, none⟩) sz cap, .int .i64 a, .int .i64 m, .int .i64 b, .func (.func g) #[] cb] w (SymR prec enc w0 blk off sz f a b) := by
  intro N
  induction N with
  | zero => intro a m b f w h1 h2 h3; omega
  | succ N ih =>
    intro a m b f w h1 h2 h3 h4 hS hA hB hx
    by_cases ha : m = a + 1
    · exact sym_left enc cf g cb blk off cap sz a m b d0 f w0 w eg O hcmp R hs hS h4 hsz ha h2 hB hx
    · by_cases hb : b = m + 1
      · exact sym_right enc cf g cb blk off cap sz a m b d0 f w0 w eg O hcmp R hs hS h4 hsz hb (by omega) hA hx
      · exact sym_deep enc cf g cb blk off cap sz a m b d0 f w0 w eg O hcmp R hs hS h4 hsz (by omega) (by omega) hA hB hx (fun a' m' b' f' w' k1 k2 k3 k4 => ih a' m' b' f' w' k1 k2 (by omega) k4)
end
end Go.Proofs.YtcdilaembophlaaDoor
