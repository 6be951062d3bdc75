/-
  slices.symMergeCmpFunc at elements of one cell: the two base cases. Conditions: the comparison's own contract; both ranges in order.
-/
import Derived.Test.YtcdilaembophlaaDoorPrSr
import Derived.Shelf.SlSortCmp.QuietGrown
namespace Go.Proofs.YtcdilaembophlaaDoor
open Go Go.RowKit Go.Lib Go.Sort Go.Shelf Go.Proofs Go.Proofs.YtcdilaembophlaaDoor.Mg
set_option linter.unusedVariables false

section
variable {α : Type} [Inhabited α]
omit [Inhabited α] in
theorem rot_one (f : Nat → α) (a k t : Nat) (h : a ≤ k) : rotR f a (a + 1) (k + 2) t = if t = k + 1 then rotR f a (a + 1) (k + 1) k else if t = k then rotR f a (a + 1) (k + 1) (k + 1) else rotR f a (a + 1) (k + 1) t := by
  unfold rotR
  (repeat' split) <;> first | (exfalso; omega) | (apply ap_eq; omega)
omit [Inhabited α] in
theorem rot_back (f : Nat → α) (m k t : Nat) (h : k + 1 ≤ m) : rotR f k m (m + 1) t = if t = k then rotR f (k + 1) m (m + 1) (k + 1) else if t = k + 1 then rotR f (k + 1) m (m + 1) k else rotR f (k + 1) m (m + 1) t := by
  unfold rotR
  (repeat' split) <;> first | (exfalso; omega) | (apply ap_eq; omega)
/-- What a merge leaves. -/
def SymR (prec : α → α → Prop) (enc : α → Value) (w0 : World) (blk off sz : Nat) (f : Nat → α) (a b : Nat) (e : Ending) (w : World) : Prop := e = .returned (.tuple #[]) ∧ ∃ g, Mrg prec f g a b ∧ Rw enc w0 blk off sz g w
variable {prec Rr : α → α → Prop}

set_option maxHeartbeats 8000000 in
set_option maxRecDepth 100000 in
theorem sym_left (enc : α → Value) (cf : α → α → Int) (g : Nat) (cb : Array Value) (blk off cap sz a m b : Nat) (d0 : Array α) (f : Nat → α) (w0 w : World) (eg : ∀ args w, (callFunc g args).run Tryd.prog w = .ok (.enter g args) w)
    (O : Ord prec Rr (ltOf cf)) (hcmp : CmpLays1 Tryd.prog g cb enc cf blk off sz w0) (R : Row1 enc w0 blk off d0) (hs : d0.size = sz) (S : Rw enc w0 blk off sz f w) (hb : b ≤ sz) (hsz : sz < 4611686018427387904) (hm : m = a + 1) (hmb : m < b)
    (hB : Srt prec f m b) (hx : Crs Rr f a m b) :
    Calls Tryd.prog 72 #[.slice (some ⟨blk, off, none⟩) sz cap, .int .i64 a, .int .i64 m, .int .i64 b, .func (.func g) #[] cb] w (SymR prec enc w0 blk off sz f a b) := by
  have hcl0 := R.hO.cells
  simp only [Value.cells] at hcl0
  have hst := R.hO.store Tryd.prog
  have mixed : Tryd.prog.follows .mixedOrders = true := by kernel_rfl
  have HRW := Lib.hid R
  have HC := Lib.hid hcmp
  have HO := Lib.hid O
  have HS := Lib.hid S
  clear S R hcmp O
  have HB := Lib.hid hB
  have HX := Lib.hid hx
  clear hB hx
  have t0 : ((m : Int) - (a : Int) == 1) = true := by simp; omega
  have HE := Lib.hid hm
  have hm1 : m ≤ a + 1 := by omega
  have hm2 : a + 1 ≤ m := by omega
  clear hm
  go_enter Tryd.func72, Tryd.ntmps72
  go_wp2_with fail
  go_loopg [10, 11] (b - m) (fun g1 vi vj wr => ∃ (i j : Nat), vi = .int .i64 i ∧ vj = .int .i64 j ∧ m ≤ i ∧ i ≤ j ∧ j ≤ b ∧ j - i ≤ g1 ∧ Hid ((∀ t, m ≤ t → t < i → prec (f t) (f a)) ∧ (∀ t, j ≤ t → t < b → prec (f a) (f t))) ∧ Hid (Rw enc w0 blk off sz f wr))
  case atStart => exact ⟨m, b, rfl, rfl, by omega, by omega, by omega, by omega, Lib.hid ⟨fun t _ _ => by omega, fun t _ _ => by omega⟩, HS⟩
  case round =>
    clear HS
    obtain ⟨i, j, rfl, rfl, hmi, hij, hjb, hg, HI, HR⟩ := hrel
    by_cases hlt : i < j
    · obtain ⟨dk, hsk, hfk, S1'⟩ := HR.out
      have S1 := Lib.hid S1'
      have HF := Lib.hid hfk
      clear S1' hfk
      have hltz : (i : Int) < (j : Int) := by omega
      have hrz : IntKind.i64.wrap ((i : Int) + (j : Int)) = (i : Int) + (j : Int) := by rw [IntKind.wrap_i64]; omega
      obtain ⟨iN1, hiN1⟩ : ∃ q, q = (i + j) / 2 := ⟨_, rfl⟩
      obtain ⟨jN1, hjN1⟩ : ∃ q, q = a := ⟨_, rfl⟩
      have ea1 : (((i : Int) + (j : Int)) / 2).toNat = iN1 := by omega
      have pa1 : (0 : Int) ≤ ((i : Int) + (j : Int)) / 2 := by omega
      have ba1 : ((i : Int) + (j : Int)) / 2 < (sz : Int) := by omega
      have ra1 : IntKind.i64.wrap (((i : Int) + (j : Int)) / 2) = ((i : Int) + (j : Int)) / 2 := by rw [IntKind.wrap_i64]; omega
      have ec1 : ((a : Int)).toNat = jN1 := by omega
      have pc1 : (0 : Int) ≤ (a : Int) := by omega
      have bc1 : (a : Int) < (sz : Int) := by omega
      have rc1 : IntKind.i64.wrap ((a : Int)) = (a : Int) := by rw [IntKind.wrap_i64]; omega
      obtain ⟨x1, hx1⟩ : ∃ x, x = dk[(i + j) / 2]! := ⟨_, rfl⟩
      obtain ⟨y1, hy1⟩ : ∃ x, x = dk[a]! := ⟨_, rfl⟩
      have l1a := S1.out.cl HRW.out (by omega) ((i + j) / 2) (by omega)
      have l1b := S1.out.cl HRW.out (by omega) (a) (by omega)
      rw [← hx1, ← hiN1] at l1a
      rw [← hy1, ← hjN1] at l1b
      have hc1 := S1.out.cmp HC.out (by omega) x1 y1
      have HX1 : Hid (x1 = f ((i + j) / 2) ∧ y1 = f a) := Lib.hid ⟨hx1.trans (congrFun HF.out ((i + j) / 2)), hy1.trans (congrFun HF.out a)⟩
      clear hx1 hy1 hiN1 hjN1
      by_cases hv : cf x1 y1 < 0
      · have hd1 : decide (cf x1 y1 < 0) = true := decide_eq_true hv
        go_wp2_with fail
        go_quiet_grown (first | (go_at_fn g; refine Calls.grown_of (hc1 _ _)))
        have S2 : Hid (Rw enc w0 blk off sz f (grow (wr.drewN nq) osq)) := Lib.hid ⟨dk, hsk, HF.out, S1.out.grown nq osq⟩
        clear l1a l1b hc1 S1 HR
        generalize grow (wr.drewN nq) osq = w2 at S2 ⊢
        clear nq osq
        clear ea1 ec1
        go_wp2_with fail
        go_roundg (j - ((i + j) / 2 + 1))
        case measure => omega
        case rel => exact ⟨(i + j) / 2 + 1, j, by first | (congr 1; done) | (congr 1; omega), rfl, by omega, by omega, hjb, Nat.le_refl _, Lib.hid ⟨fun t h1 h2 => HB.out.le HO.out h1 (by omega : t ≤ (i + j) / 2) (by omega) (HO.out.no _ _ (HX.out a ((i + j) / 2) (Nat.le_refl _) (by omega) (by omega) (by omega)) (by rw [← HX1.out.1, ← HX1.out.2]; exact decide_eq_true hv)), HI.out.2⟩, S2⟩
      · have hd1 : decide (cf x1 y1 < 0) = false := decide_eq_false hv
        go_wp2_with fail
        go_quiet_grown (first | (go_at_fn g; refine Calls.grown_of (hc1 _ _)))
        have S2 : Hid (Rw enc w0 blk off sz f (grow (wr.drewN nq) osq)) := Lib.hid ⟨dk, hsk, HF.out, S1.out.grown nq osq⟩
        clear l1a l1b hc1 S1 HR
        generalize grow (wr.drewN nq) osq = w2 at S2 ⊢
        clear nq osq
        clear ea1 ec1
        go_wp2_with fail
        go_roundg ((i + j) / 2 - i)
        case measure => omega
        case rel => exact ⟨i, (i + j) / 2, rfl, by first | (congr 1; done) | (congr 1; omega), by omega, by omega, by omega, Nat.le_refl _, Lib.hid ⟨HI.out.1, fun t h1 h2 => HB.out.ge HO.out (by omega) h1 h2 (HO.out.yes _ _ (HX.out a ((i + j) / 2) (Nat.le_refl _) (by omega) (by omega) (by omega)) (by rw [← HX1.out.1, ← HX1.out.2]; exact decide_eq_false (by omega)))⟩, S2⟩
    · obtain rfl : j = i := by omega
      have HM : Hid (Mrg prec f (rotR f a m j) a b) := Lib.hid (mrg_left HO.out HE.out hmi hjb HB.out HI.out.1 HI.out.2)
      clear HI HB HX hlt hij
      go_wp2_with fail
      go_loopg [13] (j - m) (fun g1 vk wr => ∃ k : Nat, vk = .int .i64 k ∧ a ≤ k ∧ k + 1 ≤ j ∧ j - 1 - k ≤ g1 ∧ Hid (Rw enc w0 blk off sz (rotR f a (a + 1) (k + 1)) wr))
      case atStart => exact ⟨a, rfl, Nat.le_refl _, by omega, by omega, by rw [rot_none2 f a (a + 1) (by omega)]; exact HR⟩
      case round =>
        clear HR
        obtain ⟨k, rfl, hak, hkj, hg2, HR⟩ := hrel
        by_cases hlt : k + 1 < j
        · obtain ⟨dk, hsk, hfk, S1'⟩ := HR.out
          have S1 := Lib.hid S1'
          have HF := Lib.hid hfk
          clear S1' hfk HR
          have hltz : (k : Int) < (j : Int) - 1 := by omega
          obtain ⟨iN2, hiN2⟩ : ∃ q, q = k := ⟨_, rfl⟩
          obtain ⟨jN2, hjN2⟩ : ∃ q, q = k + 1 := ⟨_, rfl⟩
          have ea2 : ((k : Int)).toNat = iN2 := by omega
          have pa2 : (0 : Int) ≤ (k : Int) := by omega
          have ba2 : (k : Int) < (sz : Int) := by omega
          have ra2 : IntKind.i64.wrap ((k : Int)) = (k : Int) := by rw [IntKind.wrap_i64]; omega
          have ec2 : ((k : Int) + 1).toNat = jN2 := by omega
          have pc2 : (0 : Int) ≤ (k : Int) + 1 := by omega
          have bc2 : (k : Int) + 1 < (sz : Int) := by omega
          have rc2 : IntKind.i64.wrap ((k : Int) + 1) = (k : Int) + 1 := by rw [IntKind.wrap_i64]; omega
          obtain ⟨x2, hx2⟩ : ∃ x, x = dk[k]! := ⟨_, rfl⟩
          obtain ⟨y2, hy2⟩ : ∃ x, x = dk[k + 1]! := ⟨_, rfl⟩
          have SN2 : Hid (SW enc w0 blk off (swp dk (k) (k + 1)) ((wr.setCell ⟨blk, off + iN2, none⟩ (enc y2)).setCell ⟨blk, off + jN2, none⟩ (enc x2)).drew) := by rw [hiN2, hjN2, hx2, hy2]; exact Lib.hid (S1.out.swapped HRW.out (k) (k + 1) (by omega) (by omega))
          have c2a := S1.out.c1 HRW.out (by omega) (k) (by omega)
          have c2b := S1.out.c1 HRW.out (by omega) (k + 1) (by omega)
          have f2a := S1.out.f1 HRW.out (by omega) (k) (by omega)
          have f2b := S1.out.f1 HRW.out (by omega) (k + 1) (by omega)
          obtain ⟨u2, c2c⟩ := S1.out.c2 HRW.out (by omega) (k) (k + 1) (by omega) (by omega) (enc y2)
          rw [← hjN2, ← hiN2] at c2c
          rw [← hx2, ← hiN2] at c2a
          rw [← hy2, ← hjN2] at c2b
          rw [← hiN2] at f2a
          rw [← hjN2] at f2b
          clear S1 hx2 hy2 hiN2 hjN2
          go_wp2_with fail
          go_big_region
          clear c2a c2b c2c f2a f2b
          generalize ((wr.setCell ⟨blk, off + iN2, none⟩ (enc y2)).setCell ⟨blk, off + jN2, none⟩ (enc x2)).drew = w2 at SN2 ⊢
          clear ea2 ec2
          go_wp2_with fail
          go_roundg (j - 1 - (k + 1))
          case measure => omega
          case rel => exact ⟨k + 1, by go_num, by omega, by omega, Nat.le_refl _, Lib.hid ⟨_, by rw [swp_size]; exact hsk, by
            funext t
            show (swp dk k (k + 1))[t]! = _
            rw [swp_get dk (by omega) (by omega), rot_one f a k t hak, ← HF.out]
            rfl, SN2.out⟩⟩
        · obtain rfl : j = k + 1 := by omega
          have hltz : ¬ (k : Int) < ((k + 1 : Nat) : Int) - 1 := by omega
          go_wp2_with fail
          go_end0
          refine ⟨rfl, _, ?_, HR.out⟩
          have := HM.out
          rwa [HE.out] at this

set_option maxHeartbeats 8000000 in
set_option maxRecDepth 100000 in
theorem sym_right (enc : α → Value) (cf : α → α → Int) (g : Nat) (cb : Array Value) (blk off cap sz a m b : Nat) (d0 : Array α) (f : Nat → α) (w0 w : World) (eg : ∀ args w, (callFunc g args).run Tryd.prog w = .ok (.enter g args) w)
    (O : Ord prec Rr (ltOf cf)) (hcmp : CmpLays1 Tryd.prog g cb enc cf blk off sz w0) (R : Row1 enc w0 blk off d0) (hs : d0.size = sz) (S : Rw enc w0 blk off sz f w) (hb : b ≤ sz) (hsz : sz < 4611686018427387904) (hbm : b = m + 1) (ham : a + 1 < m)
    (hA : Srt prec f a m) (hx : Crs Rr f a m b) :
    Calls Tryd.prog 72 #[.slice (some ⟨blk, off, none⟩) sz cap, .int .i64 a, .int .i64 m, .int .i64 b, .func (.func g) #[] cb] w (SymR prec enc w0 blk off sz f a b) := by
  have hcl0 := R.hO.cells
  simp only [Value.cells] at hcl0
  have hst := R.hO.store Tryd.prog
  have mixed : Tryd.prog.follows .mixedOrders = true := by kernel_rfl
  have HRW := Lib.hid R
  have HC := Lib.hid hcmp
  have HO := Lib.hid O
  have HS := Lib.hid S
  clear S R hcmp O
  have HB := Lib.hid hA
  have HX := Lib.hid hx
  clear hA hx
  have t0 : ((m : Int) - (a : Int) == 1) = false := by simp; omega
  have t1 : ((b : Int) - (m : Int) == 1) = true := by simp; omega
  have HE := Lib.hid hbm
  have hm1 : b ≤ m + 1 := by omega
  have hm2 : m + 1 ≤ b := by omega
  clear hbm
  go_enter Tryd.func72, Tryd.ntmps72
  go_wp2_with fail
  go_loopg [14, 15] (m - a) (fun g1 vi vj wr => ∃ (i j : Nat), vi = .int .i64 i ∧ vj = .int .i64 j ∧ a ≤ i ∧ i ≤ j ∧ j ≤ m ∧ j - i ≤ g1 ∧ Hid ((∀ t, a ≤ t → t < i → prec (f t) (f m)) ∧ (∀ t, j ≤ t → t < m → prec (f m) (f t))) ∧ Hid (Rw enc w0 blk off sz f wr))
  case atStart => exact ⟨a, m, rfl, rfl, by omega, by omega, by omega, by omega, Lib.hid ⟨fun t _ _ => by omega, fun t _ _ => by omega⟩, HS⟩
  case round =>
    clear HS
    obtain ⟨i, j, rfl, rfl, hmi, hij, hjb, hg, HI, HR⟩ := hrel
    by_cases hlt : i < j
    · obtain ⟨dk, hsk, hfk, S1'⟩ := HR.out
      have S1 := Lib.hid S1'
      have HF := Lib.hid hfk
      clear S1' hfk
      have hltz : (i : Int) < (j : Int) := by omega
      have hrz : IntKind.i64.wrap ((i : Int) + (j : Int)) = (i : Int) + (j : Int) := by rw [IntKind.wrap_i64]; omega
      obtain ⟨iN1, hiN1⟩ : ∃ q, q = m := ⟨_, rfl⟩
      obtain ⟨jN1, hjN1⟩ : ∃ q, q = (i + j) / 2 := ⟨_, rfl⟩
      have ea1 : ((m : Int)).toNat = iN1 := by omega
      have pa1 : (0 : Int) ≤ (m : Int) := by omega
      have ba1 : (m : Int) < (sz : Int) := by omega
      have ra1 : IntKind.i64.wrap ((m : Int)) = (m : Int) := by rw [IntKind.wrap_i64]; omega
      have ec1 : (((i : Int) + (j : Int)) / 2).toNat = jN1 := by omega
      have pc1 : (0 : Int) ≤ ((i : Int) + (j : Int)) / 2 := by omega
      have bc1 : ((i : Int) + (j : Int)) / 2 < (sz : Int) := by omega
      have rc1 : IntKind.i64.wrap (((i : Int) + (j : Int)) / 2) = ((i : Int) + (j : Int)) / 2 := by rw [IntKind.wrap_i64]; omega
      obtain ⟨x1, hx1⟩ : ∃ x, x = dk[m]! := ⟨_, rfl⟩
      obtain ⟨y1, hy1⟩ : ∃ x, x = dk[(i + j) / 2]! := ⟨_, rfl⟩
      have l1a := S1.out.cl HRW.out (by omega) (m) (by omega)
      have l1b := S1.out.cl HRW.out (by omega) ((i + j) / 2) (by omega)
      rw [← hx1, ← hiN1] at l1a
      rw [← hy1, ← hjN1] at l1b
      have hc1 := S1.out.cmp HC.out (by omega) x1 y1
      have HX1 : Hid (x1 = f m ∧ y1 = f ((i + j) / 2)) := Lib.hid ⟨hx1.trans (congrFun HF.out m), hy1.trans (congrFun HF.out ((i + j) / 2))⟩
      clear hx1 hy1 hiN1 hjN1
      by_cases hv : cf x1 y1 < 0
      · have hd1 : decide (cf x1 y1 < 0) = true := decide_eq_true hv
        go_wp2_with fail
        go_quiet_grown (first | (go_at_fn g; refine Calls.grown_of (hc1 _ _)))
        have S2 : Hid (Rw enc w0 blk off sz f (grow (wr.drewN nq) osq)) := Lib.hid ⟨dk, hsk, HF.out, S1.out.grown nq osq⟩
        clear l1a l1b hc1 S1 HR
        generalize grow (wr.drewN nq) osq = w2 at S2 ⊢
        clear nq osq
        clear ea1 ec1
        go_wp2_with fail
        go_roundg ((i + j) / 2 - i)
        case measure => omega
        case rel => exact ⟨i, (i + j) / 2, rfl, by first | (congr 1; done) | (congr 1; omega), by omega, by omega, by omega, Nat.le_refl _, Lib.hid ⟨HI.out.1, fun t h1 h2 => HB.out.ge HO.out (by omega) h1 h2 (HO.out.no _ _ (HX.out ((i + j) / 2) m (by omega) (by omega) (Nat.le_refl _) (by omega)) (by rw [← HX1.out.1, ← HX1.out.2]; exact decide_eq_true hv))⟩, S2⟩
      · have hd1 : decide (cf x1 y1 < 0) = false := decide_eq_false hv
        go_wp2_with fail
        go_quiet_grown (first | (go_at_fn g; refine Calls.grown_of (hc1 _ _)))
        have S2 : Hid (Rw enc w0 blk off sz f (grow (wr.drewN nq) osq)) := Lib.hid ⟨dk, hsk, HF.out, S1.out.grown nq osq⟩
        clear l1a l1b hc1 S1 HR
        generalize grow (wr.drewN nq) osq = w2 at S2 ⊢
        clear nq osq
        clear ea1 ec1
        go_wp2_with fail
        go_roundg (j - ((i + j) / 2 + 1))
        case measure => omega
        case rel => exact ⟨(i + j) / 2 + 1, j, by first | (congr 1; done) | (congr 1; omega), rfl, by omega, by omega, hjb, Nat.le_refl _, Lib.hid ⟨fun t h1 h2 => HB.out.le HO.out h1 (by omega : t ≤ (i + j) / 2) (by omega) (HO.out.yes _ _ (HX.out ((i + j) / 2) m (by omega) (by omega) (Nat.le_refl _) (by omega)) (by rw [← HX1.out.1, ← HX1.out.2]; exact decide_eq_false (by omega))), HI.out.2⟩, S2⟩
    · obtain rfl : j = i := by omega
      have HM : Hid (Mrg prec f (rotR f j m b) a b) := Lib.hid (mrg_right HO.out HE.out hmi hjb HB.out HI.out.1 HI.out.2)
      clear HI HB HX hlt hij
      go_wp2_with fail
      go_loopg [17] (m - j) (fun g1 vk wr => ∃ k : Nat, vk = .int .i64 k ∧ j ≤ k ∧ k ≤ m ∧ k - j ≤ g1 ∧ Hid (Rw enc w0 blk off sz (rotR f k m (m + 1)) wr))
      case atStart => exact ⟨m, rfl, hjb, Nat.le_refl _, Nat.le_refl _, by rw [rot_none1 f m (m + 1)]; exact HR⟩
      case round =>
        clear HR
        obtain ⟨k, rfl, hak, hkj, hg2, HR⟩ := hrel
        by_cases hlt : j < k
        · obtain ⟨kp, rfl⟩ : ∃ q, k = q + 1 := ⟨k - 1, by omega⟩
          obtain ⟨dk, hsk, hfk, S1'⟩ := HR.out
          have S1 := Lib.hid S1'
          have HF := Lib.hid hfk
          clear S1' hfk HR
          have hltz : decide ((j : Int) < ((kp + 1 : Nat) : Int)) = true := decide_eq_true (by omega)
          have hltz' : (j : Int) < ((kp + 1 : Nat) : Int) := by omega
          obtain ⟨iN2, hiN2⟩ : ∃ q, q = kp + 1 := ⟨_, rfl⟩
          obtain ⟨jN2, hjN2⟩ : ∃ q, q = kp := ⟨_, rfl⟩
          have ea2 : ((kp : Int) + 1).toNat = iN2 := by omega
          have pa2 : (0 : Int) ≤ (kp : Int) + 1 := by omega
          have ba2 : (kp : Int) + 1 < (sz : Int) := by omega
          have ra2 : IntKind.i64.wrap ((kp : Int) + 1) = (kp : Int) + 1 := by rw [IntKind.wrap_i64]; omega
          have ec2 : ((kp : Int)).toNat = jN2 := by omega
          have pc2 : (0 : Int) ≤ (kp : Int) := by omega
          have bc2 : (kp : Int) < (sz : Int) := by omega
          have rc2 : IntKind.i64.wrap ((kp : Int)) = (kp : Int) := by rw [IntKind.wrap_i64]; omega
          obtain ⟨x2, hx2⟩ : ∃ x, x = dk[kp + 1]! := ⟨_, rfl⟩
          obtain ⟨y2, hy2⟩ : ∃ x, x = dk[kp]! := ⟨_, rfl⟩
          have SN2 : Hid (SW enc w0 blk off (swp dk (kp + 1) (kp)) ((wr.setCell ⟨blk, off + iN2, none⟩ (enc y2)).setCell ⟨blk, off + jN2, none⟩ (enc x2)).drew) := by rw [hiN2, hjN2, hx2, hy2]; exact Lib.hid (S1.out.swapped HRW.out (kp + 1) (kp) (by omega) (by omega))
          have c2a := S1.out.c1 HRW.out (by omega) (kp + 1) (by omega)
          have c2b := S1.out.c1 HRW.out (by omega) (kp) (by omega)
          have f2a := S1.out.f1 HRW.out (by omega) (kp + 1) (by omega)
          have f2b := S1.out.f1 HRW.out (by omega) (kp) (by omega)
          obtain ⟨u2, c2c⟩ := S1.out.c2 HRW.out (by omega) (kp + 1) (kp) (by omega) (by omega) (enc y2)
          rw [← hiN2, ← hjN2] at c2c
          rw [← hx2, ← hiN2] at c2a
          rw [← hy2, ← hjN2] at c2b
          rw [← hiN2] at f2a
          rw [← hjN2] at f2b
          clear S1 hx2 hy2 hiN2 hjN2
          go_wp2_with fail
          go_big_region
          clear c2a c2b c2c f2a f2b
          generalize ((wr.setCell ⟨blk, off + iN2, none⟩ (enc y2)).setCell ⟨blk, off + jN2, none⟩ (enc x2)).drew = w2 at SN2 ⊢
          clear ea2 ec2
          go_wp2_with fail
          go_roundg (kp - j)
          case measure => omega
          case rel => exact ⟨kp, by go_num, by omega, by omega, Nat.le_refl _, Lib.hid ⟨_, by rw [swp_size]; exact hsk, by
            funext t
            show (swp dk (kp + 1) kp)[t]! = _
            rw [swp_get dk (by omega) (by omega), rot_back f m kp t (by omega), ← HF.out]
            rfl, SN2.out⟩⟩
        · obtain rfl : k = j := by omega
          have hltz : ¬ (k : Int) < (k : Int) := by omega
          go_wp2_with fail
          go_end0
          refine ⟨rfl, _, ?_, HR.out⟩
          rw [show rotR f k m (m + 1) = rotR f k m b by rw [HE.out]]
          exact HM.out
end
end Go.Proofs.YtcdilaembophlaaDoor
