/-
  slices.SortStableFunc at ints, any number of elements: what the row holds is in order, equals as they stood. Conditions: the comparison's own contract; the elements stand as the order of equals wants.
-/
import Derived.Test.YtmgglcfndhfceaaGreatDoorPrMh
import Derived.Test.YtmgglcfndhfceaaGreatDoorShelf
namespace Go.Proofs.YtmgglcfndhfceaaGreatDoor
open Go Go.RowKit Go.Lib Go.Sort Go.Shelf Go.Proofs Go.Proofs.YtmgglcfndhfceaaGreatDoor.Mg
set_option linter.unusedVariables false

/-- Of one block of twenty, below A. -/
def E1 (A i j : Nat) : Prop := j < A ∧ i / 20 = j / 20
/-- Of one double block below A, of one block from A on. -/
def E2 (B A i j : Nat) : Prop := (j < A ∧ i / (2 * B) = j / (2 * B)) ∨ (A ≤ i ∧ i / B = j / B)
def E3 (B i j : Nat) : Prop := i / B = j / B

theorem blk_facts {B t T : Nat} (hB : 0 < B) (hT : T = t * B) (x : Nat) :
    (x / B < 2 * t ↔ x < 2 * T) ∧ (x / B < 2 * t + 1 ↔ x < 2 * T + B) ∧ (x / B < 2 * t + 2 ↔ x < 2 * T + 2 * B) ∧ (x / (2 * B) < t ↔ x < 2 * T) ∧ (x / (2 * B) < t + 1 ↔ x < 2 * T + 2 * B) := by
  have e1 : (2 * t) * B = 2 * T := by rw [hT, Nat.mul_assoc]
  have e2 : (2 * t + 1) * B = 2 * T + B := by rw [Nat.add_mul, e1, Nat.one_mul]
  have e3 : (2 * t + 2) * B = 2 * T + 2 * B := by rw [Nat.add_mul, e1]
  have e4 : t * (2 * B) = 2 * T := by rw [hT, Nat.mul_left_comm]
  have e5 : (t + 1) * (2 * B) = 2 * T + 2 * B := by rw [Nat.add_mul, e4, Nat.one_mul]
  refine ⟨?_, ?_, ?_, ?_, ?_⟩
  · rw [Nat.div_lt_iff_lt_mul hB, e1]
  · rw [Nat.div_lt_iff_lt_mul hB, e2]
  · rw [Nat.div_lt_iff_lt_mul hB, e3]
  · rw [Nat.div_lt_iff_lt_mul (by omega), e4]
  · rw [Nat.div_lt_iff_lt_mul (by omega), e5]

section
variable {α : Type} [Inhabited α] {prec Rr : α → α → Prop} {f g : Nat → α} {lt : α → α → Bool}
omit [Inhabited α]
theorem blk1 {A n : Nat} (h : Blk prec Rr f (E1 A) n) (hA : A % 20 = 0) (hM : Mrg prec f g A (A + 20)) (hn : A + 20 ≤ n) : Blk prec Rr g (E1 (A + 20)) n := by
  refine h.merge hM hn (fun i j _ _ _ c => ?_) (fun i j _ _ _ _ c => ?_) (fun i j _ _ => ?_)
  · unfold E1 at c; omega
  · unfold E1 at c; omega
  · unfold E1; omega
theorem blk1_end {A n : Nat} (h : Blk prec Rr f (E1 A) n) (hA : A % 20 = 0) (hAn : A ≤ n) (hM : Mrg prec f g A n) (hn : n < A + 20) : Blk prec Rr g (E3 20) n := by
  refine h.merge hM (Nat.le_refl _) (fun i j _ _ _ c => ?_) (fun i j _ _ _ _ c => ?_) (fun i j _ _ => ?_)
  · unfold E1 at c; omega
  · omega
  · unfold E1 E3; omega
theorem blk2_start {B n : Nat} (h : Blk prec Rr f (E3 B) n) : Blk prec Rr f (E2 B 0) n := h.congr fun i j _ _ => by unfold E2 E3; simp
theorem blk2_srt1 {B t T n : Nat} (h : Blk prec Rr f (E2 B (2 * T)) n) (hB : 0 < B) (hT : T = t * B) (hn : 2 * T + B ≤ n) : Srt prec f (2 * T) (2 * T + B) := fun i j p q r => (h i j q (by omega)).1 (by
  obtain ⟨a1, a2, a3, a4, a5⟩ := blk_facts hB hT i
  obtain ⟨b1, b2, b3, b4, b5⟩ := blk_facts hB hT j
  exact .inr ⟨p, by omega⟩)
theorem blk2_srt2 {B t T n b : Nat} (h : Blk prec Rr f (E2 B (2 * T)) n) (hB : 0 < B) (hT : T = t * B) (hn : b ≤ n) (hb : b ≤ 2 * T + 2 * B) : Srt prec f (2 * T + B) b := fun i j p q r => (h i j q (by omega)).1 (by
  obtain ⟨a1, a2, a3, a4, a5⟩ := blk_facts hB hT i
  obtain ⟨b1, b2, b3, b4, b5⟩ := blk_facts hB hT j
  exact .inr ⟨by omega, by omega⟩)
theorem blk2_crs {B t T n b : Nat} (h : Blk prec Rr f (E2 B (2 * T)) n) (hB : 0 < B) (hT : T = t * B) (hn : b ≤ n) : Crs Rr f (2 * T) (2 * T + B) b := fun i j p q r s => (h i j (by omega) (by omega)).2 (fun c => by
  obtain ⟨a1, a2, a3, a4, a5⟩ := blk_facts hB hT i
  obtain ⟨b1, b2, b3, b4, b5⟩ := blk_facts hB hT j
  unfold E2 at c
  omega)
theorem blk2 {B t T n : Nat} (h : Blk prec Rr f (E2 B (2 * T)) n) (hB : 0 < B) (hT : T = t * B) (hM : Mrg prec f g (2 * T) (2 * T + 2 * B)) (hn : 2 * T + 2 * B ≤ n) : Blk prec Rr g (E2 B (2 * (T + B))) n := by
  refine h.merge hM hn (fun i j _ _ _ c => ?_) (fun i j _ _ _ _ c => ?_) (fun i j _ _ => ?_)
  · unfold E2 at c; omega
  · obtain ⟨a1, a2, a3, a4, a5⟩ := blk_facts hB hT i
    obtain ⟨b1, b2, b3, b4, b5⟩ := blk_facts hB hT j
    unfold E2 at c; omega
  · obtain ⟨a1, a2, a3, a4, a5⟩ := blk_facts hB hT i
    obtain ⟨b1, b2, b3, b4, b5⟩ := blk_facts hB hT j
    unfold E2; omega
theorem blk2_end {B t T n : Nat} (h : Blk prec Rr f (E2 B (2 * T)) n) (hB : 0 < B) (hT : T = t * B) (hTn : 2 * T ≤ n) (hM : Mrg prec f g (2 * T) n) (hn : n < 2 * T + 2 * B) : Blk prec Rr g (E3 (2 * B)) n := by
  refine h.merge hM (Nat.le_refl _) (fun i j _ _ _ c => ?_) (fun i j _ _ _ _ c => ?_) (fun i j _ _ => ?_)
  · unfold E2 at c; omega
  · omega
  · obtain ⟨a1, a2, a3, a4, a5⟩ := blk_facts hB hT i
    obtain ⟨b1, b2, b3, b4, b5⟩ := blk_facts hB hT j
    unfold E2 E3; omega
theorem blk2_none {B t T n : Nat} (h : Blk prec Rr f (E2 B (2 * T)) n) (hB : 0 < B) (hT : T = t * B) (hn : n ≤ 2 * T + B) : Blk prec Rr f (E3 (2 * B)) n := by
  refine h.congr fun i j _ _ => ?_
  obtain ⟨a1, a2, a3, a4, a5⟩ := blk_facts hB hT i
  obtain ⟨b1, b2, b3, b4, b5⟩ := blk_facts hB hT j
  unfold E2 E3; omega
theorem blk3_end {B n : Nat} (h : Blk prec Rr f (E3 B) n) (hn : n ≤ B) : Srt prec f 0 n := fun i j _ q r => (h i j q r).1 (by unfold E3; rw [Nat.div_eq_of_lt (by omega), Nat.div_eq_of_lt (by omega)])
end

section
variable {α : Type} [Inhabited α] {prec Rr : α → α → Prop}
theorem ins_z (enc : α → Value) (cf : α → α → Int) (g : Nat) (cb : Array Value) (blk off cap sz a b : Nat) (za zb : Int) (ea : za = (a : Int)) (eb : zb = (b : Int)) (d0 : Array α) (f : Nat → α) (w0 w : World) (eg : ∀ args w, (callFunc g args).run Tryz.prog w = .ok (.enter g args) w)
    (O : Ord prec Rr (ltOf cf)) (hcmp : CmpLays1 Tryz.prog g cb enc cf blk off sz w0) (R : Row1 enc w0 blk off d0) (hs : d0.size = sz) (S : Rw enc w0 blk off sz f w) (hab : a ≤ b) (hb : b ≤ sz) (hsz : sz < 4611686018427387904)
    (hR : ∀ i j, a ≤ i → i < j → j < b → Rr (f i) (f j)) :
    Calls Tryz.prog 92 #[.slice (some ⟨blk, off, none⟩) sz cap, .int .i64 za, .int .i64 zb, .func (.func g) #[] cb] w (SymR prec enc w0 blk off sz f a b) := by
  obtain ⟨d, rfl, rfl, S⟩ := S
  subst ea eb
  refine (Tryz.insertionSortCmpFunc_s enc cf g cb blk off cap a b d0 d w0 w eg (by rw [hs]; exact hcmp) R hs S hab hb hsz).mono ?_
  rintro e w' ⟨rfl, h⟩
  obtain ⟨s1, s2⟩ := ins_mrg O d a b hab hb hR
  exact ⟨rfl, _, s2, _, s1, rfl, h⟩
theorem sym_z (enc : α → Value) (cf : α → α → Int) (g : Nat) (cb : Array Value) (blk off cap sz a m b : Nat) (za zm zb : Int) (ea : za = (a : Int)) (em : zm = (m : Int)) (eb : zb = (b : Int)) (d0 : Array α) (f : Nat → α) (w0 w : World) (eg : ∀ args w, (callFunc g args).run Tryz.prog w = .ok (.enter g args) w)
    (O : Ord prec Rr (ltOf cf)) (hcmp : CmpLays1 Tryz.prog g cb enc cf blk off sz w0) (R : Row1 enc w0 blk off d0) (hs : d0.size = sz) (S : Rw enc w0 blk off sz f w) (ham : a < m) (hmb : m < b) (hb : b ≤ sz) (hsz : sz < 4611686018427387904)
    (hA : Srt prec f a m) (hB : Srt prec f m b) (hx : Crs Rr f a m b) :
    Calls Tryz.prog 93 #[.slice (some ⟨blk, off, none⟩) sz cap, .int .i64 za, .int .i64 zm, .int .i64 zb, .func (.func g) #[] cb] w (SymR prec enc w0 blk off sz f a b) := by
  subst ea em eb
  exact sym_any enc cf g cb blk off cap sz d0 w0 eg O hcmp R hs hsz (b - a) a m b f w ham hmb (Nat.le_refl _) hb S hA hB hx

/-- What the stable sort leaves. -/
def StbR (prec : α → α → Prop) (enc : α → Value) (w0 : World) (blk off sz : Nat) (e : Ending) (w : World) : Prop := e = .returned (.tuple #[]) ∧ ∃ g, Srt prec g 0 sz ∧ Rw enc w0 blk off sz g w

set_option maxHeartbeats 8000000 in
set_option maxRecDepth 100000 in
theorem stable_s (enc : α → Value) (cf : α → α → Int) (g : Nat) (cb : Array Value) (blk off cap sz : Nat) (d0 : Array α) (f : Nat → α) (w0 w : World) (eg : ∀ args w, (callFunc g args).run Tryz.prog w = .ok (.enter g args) w)
    (O : Ord prec Rr (ltOf cf)) (hcmp : CmpLays1 Tryz.prog g cb enc cf blk off sz w0) (R : Row1 enc w0 blk off d0) (hs : d0.size = sz) (S : Rw enc w0 blk off sz f w) (hsz : sz < 1000000000)
    (hR : ∀ i j, i < j → j < sz → Rr (f i) (f j)) :
    Calls Tryz.prog 86 #[.slice (some ⟨blk, off, none⟩) sz cap, .int .i64 sz, .func (.func g) #[] cb] w (StbR prec enc w0 blk off sz) := by
  have HRW := Lib.hid R
  have HC := Lib.hid hcmp
  have HO := Lib.hid O
  have HS := Lib.hid S
  have HB0 : Hid (Blk prec Rr f (E1 0) sz) := Lib.hid fun i j h1 h2 => ⟨fun c => by unfold E1 at c; omega, fun _ => hR i j h1 h2⟩
  clear S R hcmp O hR
  go_enter Tryz.func86, Tryz.ntmps86
  go_wp2_with fail
  go_loopg [7, 8] sz (fun g1 va vb wr => ∃ (A : Nat) (h : Nat → α), va = .int .i64 A ∧ vb = .int .i64 ((A + 20 : Nat)) ∧ A % 20 = 0 ∧ A ≤ sz ∧ sz - A ≤ g1 ∧ Hid (Blk prec Rr h (E1 A) sz) ∧ Hid (Rw enc w0 blk off sz h wr))
  case atStart => exact ⟨0, f, rfl, rfl, rfl, Nat.zero_le _, by omega, HB0, HS⟩
  case round =>
    clear HS HB0
    obtain ⟨A, h, rfl, rfl, hA, hAs, hg, HB, HR⟩ := hrel
    by_cases hlt : A + 20 ≤ sz
    · have hltz : decide (((A + 20 : Nat) : Int) ≤ (sz : Int)) = true := decide_eq_true (by omega)
      go_wp2_with fail
      refine (ins_z enc cf g cb blk off cap sz A (A + 20) _ _ (by omega) (by omega) d0 h w0 _ eg HO.out HC.out HRW.out hs HR.out (by omega) hlt (by omega) (fun i j h1 h2 h3 => (HB.out i j h2 (by omega)).2 (fun c => by unfold E1 at c; omega))).mono ?_
      rintro e w2 ⟨rfl, h2, hm, hw2⟩
      have HB2 := Lib.hid (blk1 HB.out hA hm hlt)
      have HR2 := Lib.hid hw2
      clear hm hw2 HB HR
      go_wp2_with fail
      go_roundg (sz - (A + 20))
      case measure => omega
      case rel => exact ⟨A + 20, h2, by first | (congr 1; done) | (congr 1; omega), by first | (congr 1; done) | (congr 1; omega), by omega, hlt, Nat.le_refl _, HB2, HR2⟩
    · have hltz : decide (((A + 20 : Nat) : Int) ≤ (sz : Int)) = false := decide_eq_false (by omega)
      go_wp2_with fail
      refine (ins_z enc cf g cb blk off cap sz A sz _ _ (by omega) (by omega) d0 h w0 _ eg HO.out HC.out HRW.out hs HR.out hAs (Nat.le_refl _) (by omega) (fun i j h1 h2 h3 => (HB.out i j h2 (by omega)).2 (fun c => by unfold E1 at c; omega))).mono ?_
      rintro e w2 ⟨rfl, h2, hm, hw2⟩
      have HB2 := Lib.hid (blk1_end HB.out hA hAs hm (by omega))
      have HR2 := Lib.hid hw2
      clear hm hw2 HB HR hltz hlt hg
      go_wp2_with fail
      go_loopg [6] (sz) (fun g1 vb wr => ∃ (B : Nat) (h : Nat → α), vb = .int .i64 B ∧ 20 ≤ B ∧ B ≤ 2 * sz + 20 ∧ sz - B ≤ g1 ∧ Hid (Blk prec Rr h (E3 B) sz) ∧ Hid (Rw enc w0 blk off sz h wr))
      case atStart => exact ⟨20, h2, rfl, by omega, by omega, by omega, HB2, HR2⟩
      case round =>
        clear HB2 HR2
        obtain ⟨B, h, rfl, hB1, hB2, hg, HB, HR⟩ := hrel
        by_cases hlt : B < sz
        · have hltz : decide ((B : Int) < (sz : Int)) = true := decide_eq_true (by omega)
          have HB3 := Lib.hid (blk2_start HB.out)
          clear HB
          go_wp2_with fail
          go_loopg [7, 8] sz (fun g2 va vb wr => ∃ (t T : Nat) (h : Nat → α), va = .int .i64 ((2 * T : Nat)) ∧ vb = .int .i64 ((2 * T + 2 * B : Nat)) ∧ 2 * T ≤ sz ∧ sz - 2 * T ≤ g2 ∧ Hid (T = t * B) ∧ Hid (Blk prec Rr h (E2 B (2 * T)) sz) ∧ Hid (Rw enc w0 blk off sz h wr))
          case atStart => exact ⟨0, 0, h, rfl, by first | (congr 1; done) | (congr 1; omega), by omega, by omega, Lib.hid (by simp), HB3, HR⟩
          case round =>
            clear HB3 HR
            obtain ⟨t, T, h, rfl, rfl, hTs, hg2, HT, HB, HR⟩ := hrel
            by_cases hin : 2 * T + 2 * B ≤ sz
            · have hinz : decide (((2 * T + 2 * B : Nat) : Int) ≤ (sz : Int)) = true := decide_eq_true (by omega)
              go_wp2_with fail
              refine (sym_z enc cf g cb blk off cap sz (2 * T) (2 * T + B) (2 * T + 2 * B) _ _ _ (by omega) (by omega) (by omega) d0 h w0 _ eg HO.out HC.out HRW.out hs HR.out (by omega) (by omega) hin (by omega) (blk2_srt1 HB.out (by omega) HT.out (by omega)) (blk2_srt2 HB.out (by omega) HT.out hin (Nat.le_refl _)) (blk2_crs HB.out (by omega) HT.out hin)).mono ?_
              rintro e w3 ⟨rfl, h3, hm, hw3⟩
              have HB4 := Lib.hid (blk2 HB.out (by omega) HT.out hm hin)
              have HR4 := Lib.hid hw3
              clear hm hw3 HB HR
              go_wp2_with fail
              go_roundg (sz - 2 * (T + B))
              case measure => omega
              case rel => exact ⟨t + 1, T + B, h3, by first | (congr 1; done) | (congr 1; omega), by first | (congr 1; done) | (congr 1; omega), by omega, Nat.le_refl _, Lib.hid (by rw [Nat.add_mul, ← HT.out, Nat.one_mul]), HB4, HR4⟩
            · have hinz : decide (((2 * T + 2 * B : Nat) : Int) ≤ (sz : Int)) = false := decide_eq_false (by omega)
              by_cases hm1 : 2 * T + B < sz
              · have hmz : decide (((2 * T : Nat) : Int) + (B : Int) < (sz : Int)) = true := decide_eq_true (by omega)
                go_wp2_with fail
                refine (sym_z enc cf g cb blk off cap sz (2 * T) (2 * T + B) sz _ _ _ (by omega) (by omega) (by omega) d0 h w0 _ eg HO.out HC.out HRW.out hs HR.out (by omega) hm1 (Nat.le_refl _) (by omega) (blk2_srt1 HB.out (by omega) HT.out (by omega)) (blk2_srt2 HB.out (by omega) HT.out (Nat.le_refl _) (by omega)) (blk2_crs HB.out (by omega) HT.out (Nat.le_refl _))).mono ?_
                rintro e w3 ⟨rfl, h3, hm, hw3⟩
                have HB4 := Lib.hid (blk2_end HB.out (by omega) HT.out hTs hm (by omega))
                have HR4 := Lib.hid hw3
                clear hm hw3 HB HR
                go_wp2_with fail
                go_roundg (sz - 2 * B)
                case measure => omega
                case rel => exact ⟨2 * B, h3, by first | (congr 1; done) | (congr 1; omega), by omega, by omega, Nat.le_refl _, HB4, HR4⟩
              · have hmz : decide (((2 * T : Nat) : Int) + (B : Int) < (sz : Int)) = false := decide_eq_false (by omega)
                have HB4 := Lib.hid (blk2_none HB.out (by omega) HT.out (by omega))
                clear HB
                go_wp2_with fail
                go_roundg (sz - 2 * B)
                case measure => omega
                case rel => exact ⟨2 * B, h, by first | (congr 1; done) | (congr 1; omega), by omega, by omega, Nat.le_refl _, HB4, HR⟩
        · have hltz : decide ((B : Int) < (sz : Int)) = false := decide_eq_false (by omega)
          go_wp2_with fail
          go_end0
          exact ⟨rfl, h, blk3_end HB.out (by omega), HR.out⟩

theorem sort_any (enc : α → Value) (cf : α → α → Int) (g : Nat) (cb : Array Value) (blk off cap sz : Nat) (d : Array α) (w : World) (eg : ∀ args w, (callFunc g args).run Tryz.prog w = .ok (.enter g args) w)
    (O : Ord prec Rr (ltOf cf)) (hcmp : CmpLays1 Tryz.prog g cb enc cf blk off sz w) (R : Row1 enc w blk off d) (hs : d.size = sz) (hsz : sz < 1000000000) (hR : ∀ i j, i < j → j < sz → Rr (fn d i) (fn d j)) :
    Calls Tryz.prog 75 #[.slice (some ⟨blk, off, none⟩) sz cap, .func (.func g) #[] cb] w (StbR prec enc w blk off sz) := by
  have hc := stable_s enc cf g cb blk off cap sz d (fn d) w w eg O hcmp R hs ⟨d, hs, rfl, SW.start R.hH⟩ hsz hR
  clear R hcmp eg O hR
  go_enter Tryz.func75, Tryz.ntmps75
  go_wp2_with (go_at_call 86; refine hc.mono ?_; rintro e w1 ⟨rfl, hs⟩)
  go_end0
  exact ⟨rfl, hs⟩
end
end Go.Proofs.YtmgglcfndhfceaaGreatDoor
