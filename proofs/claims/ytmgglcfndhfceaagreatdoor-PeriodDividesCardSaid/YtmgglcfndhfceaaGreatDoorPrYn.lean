/-
  Layer 5 (period): what Weights, Portions and Divide and the reference's give, case by case. Conditions: the cuts and the holidays lie in memory; the table of month lengths reads as the program's text lays it.
-/
import Derived.Test.YtmgglcfndhfceaaGreatDoorPrYj
import Derived.Test.YtmgglcfndhfceaaGreatDoorPrYh
namespace Go.Proofs.YtmgglcfndhfceaaGreatDoor.Per
open Go Go.RowKit Go.Lib Go.Sort Go.Shelf Go.Proofs Go.Proofs.YtmgglcfndhfceaaGreatDoor Go.Proofs.YtmgglcfndhfceaaGreatDoor.Cal Go.Proofs.YtmgglcfndhfceaaGreatDoor.Mg
set_option linter.unusedVariables false

/-- A method that suits the kind, for the period that a calendar has. -/
theorem part_okd (k a n mt : Int) (hs : List Hol) (h : okP k a) (n0 : 0 ≤ n) (n1 : n < cnt k a) (hm : mt = 0 ∨ mt = 1 ∨ (mt = 2 ∧ k = 0)) (hv : hs.all Hol.ok = true) : PartOk mt hs (sF k a n) (sT k a n) := by
  have b := span_bd k a n n0 n1
  refine ⟨?_, b.1, b.2.1, b.2.2.1⟩
  rcases hm with hm | hm | ⟨hm, rfl⟩
  · exact .inl hm
  · exact .inr (.inl ⟨hm, hv⟩)
  · refine .inr (.inr ⟨hm, n, n0, by rw [cnt_0] at n1; omega, by rw [sF_0], by rw [sT_0]⟩)
/-- What a call of Weights finds in memory. -/
structure Cx (ca : Option Addr) (cn : Nat) (g : Nat → Int) (ha : Option Addr) (hn : Nat) (hs : List Hol) (w : World) : Prop where
  r : CutRow w w.heap.size ca cn g
  h : HolRow w w.heap.size ha hn hs
  l : LgIs w
theorem Cx.below {ca : Option Addr} {cn : Nat} {g : Nat → Int} {ha : Option Addr} {hn : Nat} {hs : List Hol} {w w' : World} (c : Cx ca cn g ha hn hs w) (hb : Below w.heap.size w w') : Cx ca cn g ha hn hs w' :=
  ⟨(c.r.below hb).more hb.size, (c.h.below hb).more hb.size, c.l.below hb⟩
theorem Cx.alloc {ca : Option Addr} {cn : Nat} {g : Nat → Int} {ha : Option Addr} {hn : Nat} {hs : List Hol} {w : World} (c : Cx ca cn g ha hn hs w) (o : Obj) : Cx ca cn g ha hn hs (w.alloc o) := c.below ((Below.refl _ _).alloc (Nat.le_refl _) o)
/-- Both give this. -/
def BwE (c : Int) (k a n mt : Int) (ca : Option Addr) (cn ccap : Nat) (g : Nat → Int) (ha : Option Addr) (hn hcap : Nat) (hs : List Hol) : Prop :=
  ∀ w, Cx ca cn g ha hn hs w → Calls Tryz.prog 22 #[.agg #[.int .i64 k, .int .i64 a], .int .i64 n, .slice ca cn ccap, .int .i64 mt, .slice ha hn hcap] w (WtsE c w) ∧ Calls Tryz.prog 23 #[.agg #[.int .i64 k, .int .i64 a], .int .i64 n, .slice ca cn ccap, .int .i64 mt, .slice ha hn hcap] w (WtsE c w)
/-- Both give this. -/
def BwR (f : Nat → Int) (k a n mt : Int) (ca : Option Addr) (cn ccap : Nat) (g : Nat → Int) (ha : Option Addr) (hn hcap : Nat) (hs : List Hol) : Prop :=
  ∀ w, Cx ca cn g ha hn hs w → Calls Tryz.prog 22 #[.agg #[.int .i64 k, .int .i64 a], .int .i64 n, .slice ca cn ccap, .int .i64 mt, .slice ha hn hcap] w (WtsR cn f w) ∧ Calls Tryz.prog 23 #[.agg #[.int .i64 k, .int .i64 a], .int .i64 n, .slice ca cn ccap, .int .i64 mt, .slice ha hn hcap] w (WtsR cn f w)
/-- Both give this. -/
def BpE (c : Int) (k a n mt : Int) (ca : Option Addr) (cn ccap : Nat) (g : Nat → Int) (ha : Option Addr) (hn hcap : Nat) (hs : List Hol) : Prop :=
  ∀ w, Cx ca cn g ha hn hs w → Calls Tryz.prog 24 #[.agg #[.int .i64 k, .int .i64 a], .int .i64 n, .slice ca cn ccap, .int .i64 mt, .slice ha hn hcap] w (WtsE c w) ∧ Calls Tryz.prog 25 #[.agg #[.int .i64 k, .int .i64 a], .int .i64 n, .slice ca cn ccap, .int .i64 mt, .slice ha hn hcap] w (WtsE c w)
/-- Both give this. -/
def BpR (f1 f2 : Nat → Int) (k a n mt : Int) (ca : Option Addr) (cn ccap : Nat) (g : Nat → Int) (ha : Option Addr) (hn hcap : Nat) (hs : List Hol) : Prop :=
  ∀ w, Cx ca cn g ha hn hs w → Calls Tryz.prog 24 #[.agg #[.int .i64 k, .int .i64 a], .int .i64 n, .slice ca cn ccap, .int .i64 mt, .slice ha hn hcap] w (PtR (cn + 1) f1 f2 w) ∧ Calls Tryz.prog 25 #[.agg #[.int .i64 k, .int .i64 a], .int .i64 n, .slice ca cn ccap, .int .i64 mt, .slice ha hn hcap] w (PtR (cn + 1) f1 f2 w)
/-- Both give this. -/
def BdE (A c : Int) (k a n mt : Int) (ca : Option Addr) (cn ccap : Nat) (g : Nat → Int) (ha : Option Addr) (hn hcap : Nat) (hs : List Hol) : Prop :=
  ∀ w, Cx ca cn g ha hn hs w → Calls Tryz.prog 26 #[.int .i64 A, .agg #[.int .i64 k, .int .i64 a], .int .i64 n, .slice ca cn ccap, .int .i64 mt, .slice ha hn hcap] w (WtsE c w) ∧ Calls Tryz.prog 27 #[.int .i64 A, .agg #[.int .i64 k, .int .i64 a], .int .i64 n, .slice ca cn ccap, .int .i64 mt, .slice ha hn hcap] w (WtsE c w)
/-- Both give this. -/
def BdR (A : Int) (f : Nat → Int) (k a n mt : Int) (ca : Option Addr) (cn ccap : Nat) (g : Nat → Int) (ha : Option Addr) (hn hcap : Nat) (hs : List Hol) : Prop :=
  ∀ w, Cx ca cn g ha hn hs w → Calls Tryz.prog 26 #[.int .i64 A, .agg #[.int .i64 k, .int .i64 a], .int .i64 n, .slice ca cn ccap, .int .i64 mt, .slice ha hn hcap] w (DivR (cn + 1) f w) ∧ Calls Tryz.prog 27 #[.int .i64 A, .agg #[.int .i64 k, .int .i64 a], .int .i64 n, .slice ca cn ccap, .int .i64 mt, .slice ha hn hcap] w (DivR (cn + 1) f w)

theorem wts_class (k a n mt : Int) (ca : Option Addr) (cn ccap : Nat) (g : Nat → Int) (ha : Option Addr) (hn hcap : Nat) (hs : List Hol) (hc : cn ≤ 1000) (hn1 : hn ≤ 1024) :
    (∃ c, (c == 0) = false ∧ BwE c k a n mt ca cn ccap g ha hn hcap hs) ∨ ∃ f : Nat → Int, (∀ i, i < cn + 1 → 0 ≤ f i ∧ f i ≤ 93) ∧ (0 ≤ sumTo f (cn + 1) ∧ sumTo f (cn + 1) ≤ 93) ∧ BwR f k a n mt ca cn ccap g ha hn hcap hs := by
  by_cases h : spP k a n
  · by_cases m0 : mt < 0
    · exact .inl ⟨2, rfl, fun w c => ⟨pwts_m1 k a n mt ca cn ccap ha hn hcap h (.inl m0) w c.l, rwts_m0 k a n mt ca cn ccap ha hn hcap h (decide_eq_true m0) w⟩⟩
    · by_cases m1 : 2 < mt
      · exact .inl ⟨2, rfl, fun w c => ⟨pwts_m1 k a n mt ca cn ccap ha hn hcap h (.inr m1) w c.l, rwts_m1 k a n mt ca cn ccap ha hn hcap h (decide_eq_false m0) (decide_eq_true m1) w⟩⟩
      · by_cases m2 : mt = 2 ∧ ¬ k = 0
        · have e1 : (mt == 2) = true := by simp [m2.1]
          have e2 : (k != 0) = true := by simp [m2.2]
          exact .inl ⟨2, rfl, fun w c => ⟨pwts_m2 k a n mt ca cn ccap ha hn hcap h e1 e2 w c.l, rwts_m2 k a n mt ca cn ccap ha hn hcap h e1 e2 w⟩⟩
        · have hmk : (mt == 2) = false ∨ ((mt == 2) = true ∧ (k != 0) = false) := by
            by_cases e : mt = 2
            · exact .inr ⟨by simp [e], by simp; by_cases ek : k = 0; exact ek; exact absurd ⟨e, ek⟩ m2⟩
            · exact .inl (by simp [e])
          have hmk' : mt = 0 ∨ mt = 1 ∨ (mt = 2 ∧ k = 0) := by
            by_cases ek : k = 0
            · omega
            · have : ¬ mt = 2 := fun e => m2 ⟨e, ek⟩
              omega
          rcases first_cut g (sF k a n) (sT k a n) cn cn (Nat.le_refl _) with hd | ⟨b, hb, ho, hbad⟩
          · rcases hv : hs.all Hol.ok with _ | _
            · exact .inl ⟨1, rfl, fun w c => ⟨pwts_hol k a n mt ca cn ccap g ha hn hcap hs h (by omega) (by omega) hmk (by omega) hd hn1 hv w c.r c.h c.l, rwts_hol k a n mt ca cn ccap g ha hn hcap hs h (by omega) (by omega) hmk (by omega) hd hn1 hv w c.r c.h⟩⟩
            · have hp := part_okd k a n mt hs h.1 h.2.1 h.2.2 hmk' hv
              have sb := span_bd k a n h.2.1 h.2.2
              refine .inr ⟨wtF mt (nmAll hs) g (sF k a n) (sT k a n) cn, fun i hi => wt_bd mt _ sb.2.1 (by omega) hd (by omega), ?_, fun w c => ⟨pwts_ok k a n mt ca cn ccap g ha hn hcap hs h (by omega) (by omega) hmk (by omega) hd hn1 hv hp w c.r c.h c.l, rwts_ok k a n mt ca cn ccap g ha hn hcap hs h (by omega) (by omega) hmk (by omega) hd hn1 hv w c.r c.h⟩⟩
              rw [wt_total mt _ sb.2.1 hd]
              exact whole_bd mt _ sb.2.1 (by omega)
          · exact .inl ⟨1, rfl, fun w c => ⟨pwts_cut k a n mt ca cn ccap g ha hn hcap hs h (by omega) (by omega) hmk b (by omega) hb ho hbad w c.r c.l, rwts_cut k a n mt ca cn ccap g ha hn hcap hs h (by omega) (by omega) hmk (by omega) b hb ho hbad w c.r c.h⟩⟩
  · exact .inl ⟨2, rfl, fun w c => ⟨pwts_sp k a n mt ca cn ccap ha hn hcap h w c.l, rwts_sp k a n mt ca cn ccap ha hn hcap h w⟩⟩

theorem bp_err {c : Int} (hc : (c == 0) = false) {k a n mt : Int} {ca : Option Addr} {cn ccap : Nat} {g : Nat → Int} {ha : Option Addr} {hn hcap : Nat} {hs : List Hol} (H : BwE c k a n mt ca cn ccap g ha hn hcap hs) : BpE c k a n mt ca cn ccap g ha hn hcap hs := fun w cx =>
  ⟨ppt_err k a n mt ca cn ccap ha hn hcap c hc w (H _ (cx.alloc _)).1, rpt_err k a n mt ca cn ccap ha hn hcap c hc w (H _ (cx.alloc _)).2⟩
theorem bd_err {A c : Int} (hc : (c == 0) = false) {k a n mt : Int} {ca : Option Addr} {cn ccap : Nat} {g : Nat → Int} {ha : Option Addr} {hn hcap : Nat} {hs : List Hol} (H : BwE c k a n mt ca cn ccap g ha hn hcap hs) : BdE A c k a n mt ca cn ccap g ha hn hcap hs := fun w cx =>
  ⟨pdd_err A k a n mt ca cn ccap ha hn hcap c hc w (H _ (cx.alloc _)).1, rdd_err A k a n mt ca cn ccap ha hn hcap c hc w (H _ (cx.alloc _)).2⟩
section
variable {A : Int} {f : Nat → Int} {k a n mt : Int} {ca : Option Addr} {cn ccap : Nat} {g : Nat → Int} {ha : Option Addr} {hn hcap : Nat} {hs : List Hol}
theorem bp_zero (hc : cn ≤ 1000) (fb : ∀ i, i < cn + 1 → 0 ≤ f i ∧ f i ≤ 93) (hS : sumTo f (cn + 1) = 0) (H : BwR f k a n mt ca cn ccap g ha hn hcap hs) : BpE 5 k a n mt ca cn ccap g ha hn hcap hs := fun w cx =>
  ⟨ppt_zero k a n mt ca cn ccap ha hn hcap f hc (fun i hi => ⟨(fb i hi).1, by have := (fb i hi).2; omega⟩) hS w (H _ (cx.alloc _)).1, rpt_zero k a n mt ca cn ccap ha hn hcap f hc (fun i hi => ⟨(fb i hi).1, by have := (fb i hi).2; omega⟩) hS w (H _ (cx.alloc _)).2⟩
theorem bp_pos (hc : cn ≤ 1000) (fb : ∀ i, i < cn + 1 → 0 ≤ f i ∧ f i ≤ 93) (h1 : 1 ≤ sumTo f (cn + 1)) (h2 : sumTo f (cn + 1) ≤ 93) (H : BwR f k a n mt ca cn ccap g ha hn hcap hs) : BpR (fun i => (newT (f i) (sumTo f (cn + 1))).1) (fun i => (newT (f i) (sumTo f (cn + 1))).2.1) k a n mt ca cn ccap g ha hn hcap hs := fun w cx =>
  ⟨ppt_pos _ k a n mt ca cn ccap ha hn hcap f hc (fun i hi => ⟨(fb i hi).1, by have := (fb i hi).2; omega⟩) rfl h1 (by omega) w (H _ (cx.alloc _)).1, rpt_pos _ k a n mt ca cn ccap ha hn hcap f hc (fun i hi => ⟨(fb i hi).1, by have := (fb i hi).2; omega⟩) rfl h1 (by omega) w (H _ (cx.alloc _)).2⟩
theorem bd_zero (hc : cn ≤ 1000) (A0 : -1000000000 ≤ A) (A1 : A ≤ 1000000000) (fb : ∀ i, i < cn + 1 → 0 ≤ f i ∧ f i ≤ 93) (hS : sumTo f (cn + 1) = 0) (H : BwR f k a n mt ca cn ccap g ha hn hcap hs) : BdE A 5 k a n mt ca cn ccap g ha hn hcap hs := fun w cx =>
  ⟨pdd_zero A k a n mt ca cn ccap ha hn hcap f hc A0 A1 (fun i hi => (fb i hi).1) (fun i hi => by have := (fb i hi).2; omega) hS w (H _ (cx.alloc _)).1, rdd_zero A k a n mt ca cn ccap ha hn hcap f hc A0 A1 (fun i hi => (fb i hi).1) (fun i hi => by have := (fb i hi).2; omega) hS w (H _ (cx.alloc _)).2⟩
theorem bd_range (hc : cn ≤ 1000) (hT : A < -1000000000 ∨ 1000000000 < A) (H : BwR f k a n mt ca cn ccap g ha hn hcap hs) : BdE A 2 k a n mt ca cn ccap g ha hn hcap hs := fun w cx =>
  ⟨pdd_range A k a n mt ca cn ccap ha hn hcap f hc hT w (H _ (cx.alloc _)).1, rdd_range A k a n mt ca cn ccap ha hn hcap f hc hT w (H _ (cx.alloc _)).2⟩
theorem bd_pos [Inhabited (Fin (cn + 1))] (hc : cn ≤ 1000) (A0 : -1000000000 ≤ A) (A1 : A ≤ 1000000000) (fb : ∀ i, i < cn + 1 → 0 ≤ f i ∧ f i ≤ 93) (h1 : 1 ≤ sumTo f (cn + 1)) (H : BwR f k a n mt ca cn ccap g ha hn hcap hs) : BdR A (alloF A (sumTo f (cn + 1)) f (cn + 1)) k a n mt ca cn ccap g ha hn hcap hs := fun w cx =>
  ⟨pdd_pos A _ k a n mt ca cn ccap ha hn hcap f hc A0 A1 (fun i hi => (fb i hi).1) (fun i hi => by have := (fb i hi).2; omega) rfl h1 w (H _ (cx.alloc _)).1, rdd_pos A _ k a n mt ca cn ccap ha hn hcap f hc A0 A1 (fun i hi => (fb i hi).1) (fun i hi => by have := (fb i hi).2; omega) rfl h1 w (H _ (cx.alloc _)).2⟩
end
end Go.Proofs.YtmgglcfndhfceaaGreatDoor.Per
