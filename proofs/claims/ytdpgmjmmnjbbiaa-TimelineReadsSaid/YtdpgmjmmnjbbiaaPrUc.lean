/-
  Layer 6 (timeline): contracts of Go's library at rows of changes: slices.SortFunc, Reverse, IndexFunc, DeleteFunc, CompactFunc. Conditions: the row lies in a block of the call's own; what the function values answer.
-/
import Derived.Test.YtdpgmjmmnjbbiaaPrUb
import Derived.Test.YtdpgmjmmnjbbiaaShelq
import Derived.Lib.SlKept
import Derived.Deep.LoopGhost
import Derived.Lib.SliceRun
namespace Go.Proofs.Ytdpgmjmmnjbbiaa.Tl
open Go Go.RowKit Go.Lib Go.Sort Go.Shelf Go.Proofs Go.Proofs.Ytdpgmjmmnjbbiaa Go.Proofs.Ytdpgmjmmnjbbiaa.Tp
set_option linter.unusedVariables false

theorem only_putRowK (w : World) (g n : Nat) (d : Array Chg) : Only g w (putRowK encC 4 (Go.Sort.ahead w n) g 0 d) := by
  refine ⟨rfl, rfl, rfl, ?_, fun k hk hne => ?_⟩
  · rw [size_putRowK]; exact Nat.le_refl _
  · simp [putRowK, putRow, mapBlock, Go.Sort.ahead, Array.getElem?_modify, Ne.symm hne]
theorem Only.gr {g : Nat} {u v w : World} (h : Only g u v) (k : Gr v w) : Only g u w := h.trans (Only.of_below k.below)
theorem only_grow (w : World) (g : Nat) (os : Array Obj) : Only g w (grow w os) := Only.of_below (Gr.below ((Gr.refl w).grow os))
theorem only_sortWorldK (w : World) (g n : Nat) (d : Array Chg) (os : Array Obj) : Only g w (sortWorldK encC 4 w g 0 n d os) := by
  unfold sortWorldK
  exact (only_putRowK w g n d).trans (only_grow _ g os)

theorem ltOf_asc (x y : Chg) : ltOf cmpC x y = decide (lt x y) := by unfold ltOf; exact decide_eq_decide.2 (cmpC_neg x y)
theorem ltOf_dsc (x y : Chg) : ltOf (fun a b => cmpC b a) x y = decide (lt y x) := by unfold ltOf; exact decide_eq_decide.2 (cmpC_neg y x)
theorem swo_asc : SWO (ltOf cmpC) where
  irrefl x := by rw [ltOf_asc]; exact decide_eq_false (lt_irrefl x)
  trans x y z h1 h2 := by rw [ltOf_asc] at *; exact decide_eq_true (lt_trans (of_decide_eq_true h1) (of_decide_eq_true h2))
  ntrans x y z h1 h2 := by
    rw [ltOf_asc] at *
    have h1 := of_decide_eq_false h1
    have h2 := of_decide_eq_false h2
    refine decide_eq_false fun h => ?_
    rcases lt_tri x y with a | a | a
    · exact h1 a
    · subst a; exact h2 h
    · exact h2 (lt_trans a h)
theorem swo_dsc : SWO (ltOf fun a b : Chg => cmpC b a) where
  irrefl x := by rw [ltOf_dsc]; exact decide_eq_false (lt_irrefl x)
  trans x y z h1 h2 := by rw [ltOf_dsc] at *; exact decide_eq_true (lt_trans (of_decide_eq_true h2) (of_decide_eq_true h1))
  ntrans x y z h1 h2 := by
    rw [ltOf_dsc] at *
    have h1 := of_decide_eq_false h1
    have h2 := of_decide_eq_false h2
    refine decide_eq_false fun h => ?_
    rcases lt_tri x y with a | a | a
    · exact h2 (lt_trans h a)
    · subst a; exact h2 h
    · exact h1 a
theorem tot_asc (x y : Chg) (h1 : ltOf cmpC x y = false) (h2 : ltOf cmpC y x = false) : x = y := by
  rw [ltOf_asc] at *
  rcases lt_tri x y with a | a | a
  · exact absurd a (of_decide_eq_false h1)
  · exact a
  · exact absurd a (of_decide_eq_false h2)
theorem tot_dsc (x y : Chg) (h1 : ltOf (fun a b => cmpC b a) x y = false) (h2 : ltOf (fun a b => cmpC b a) y x = false) : x = y := tot_asc x y h2 h1

def SortR (g : Nat) (l : List Chg) (w : World) (e : Ending) (w' : World) : Prop := e = .returned (.tuple #[]) ∧ RowC w' g l.toArray ∧ Only g w w'
theorem sort_asc (g cap : Nat) (d : Array Chg) (w : World) (hr : RowC w g d) (hg : g < w.heap.size) (hsz : d.size ≤ 1000000) :
    Calls Try.prog 28 #[.slice (some ⟨g, 0, none⟩) d.size cap, .func (.func 29) #[] #[]] w (SortR g (asc d.toList) w) := by
  have eg : ∀ args w, (callFunc 29 args).run Try.prog w = .ok (.enter 29 args) w := enters_of Try.func29 (by kernel_rfl) rfl
  have hcon := AnyQ.slices_SortFunc_total Try.sortC 4 Try.isAgg42 Try.sizeOf42 encC (fun _ => rfl) encC_one cmpC swo_asc 29 #[] g 0 cap d w eg (fun m os dk _ x y => cmp_chg x y _) hr.holds hg (by omega) tot_asc
  refine hcon.mono ?_
  rintro e w' ⟨rfl, n, os, rfl⟩
  exact ⟨rfl, RowC.of_holds (holdsK_sortWorldK_c encC 4 w g 0 d _ n os hr.holds hg (by simp)), only_sortWorldK w g n _ os⟩
theorem sort_dsc (g cap : Nat) (d : Array Chg) (w : World) (hr : RowC w g d) (hg : g < w.heap.size) (hsz : d.size ≤ 1000000) :
    Calls Try.prog 28 #[.slice (some ⟨g, 0, none⟩) d.size cap, .func (.func 53) #[] #[]] w (SortR g (dsc d.toList) w) := by
  have eg : ∀ args w, (callFunc 53 args).run Try.prog w = .ok (.enter 53 args) w := enters_of Try.func53 (by kernel_rfl) rfl
  have hcon := AnyQ.slices_SortFunc_total Try.sortC 4 Try.isAgg42 Try.sizeOf42 encC (fun _ => rfl) encC_one (fun a b => cmpC b a) swo_dsc 53 #[] g 0 cap d w eg (fun m os dk _ x y => cl_desc x y _) hr.holds hg (by omega) tot_dsc
  refine hcon.mono ?_
  rintro e w' ⟨rfl, n, os, rfl⟩
  exact ⟨rfl, RowC.of_holds (holdsK_sortWorldK_c encC 4 w g 0 d _ n os hr.holds hg (by simp)), only_sortWorldK w g n _ os⟩
theorem sort_none (p : Option Addr) (cap : Nat) (fv : Value) (w : World) : Calls Try.prog 28 #[.slice p 0 cap, fv] w fun e w' => e = .returned (.tuple #[]) ∧ w' = w :=
  AnyF.slices_SortFunc_none Try.sortC p cap fv w
theorem rev_own (g cap : Nat) (d : Array Chg) (w : World) (hr : RowC w g d) (hsz : d.size ≤ 1000000) :
    Calls Try.prog 57 #[.slice (some ⟨g, 0, none⟩) d.size cap] w (SortR g d.toList.reverse w) := by
  have hcon := AnyQ.slices_Reverse Try.revC 4 Try.isAgg42 Try.sizeOf42 encC (fun _ => rfl) encC_one g 0 cap d w hr.holds (by omega)
  refine hcon.mono ?_
  rintro e w' ⟨rfl, n, rfl⟩
  refine ⟨rfl, RowC.of_holds ?_, only_putRowK w g n _⟩
  have : d.toList.reverse.toArray = d.reverse := by rw [← Array.toList_reverse]
  rw [this]
  exact holdsK_putRowK encC 4 _ g 0 d _ (holdsK_ahead encC 4 w n g 0 d hr.holds) Array.size_reverse

/-! ## A predicate, and a comparison of two elements, as function values -/
/-- A closure that tells whether an element is meant, wherever the row's block alone has changed. -/
def PredC (f : Nat) (lb : Array Value) (p : Chg → Bool) (g : Nat) (w : World) : Prop :=
  (∀ args w, (callFunc f args).run Try.prog w = .ok (.enter f args) w) ∧ ∀ (c : Chg) (W : World), Only g w W → Calls Try.prog f (#[vC c] ++ lb) W fun e w' => e = .returned (.bool (p c)) ∧ Gr W w'
theorem PredC.step {f g : Nat} {lb : Array Value} {p : Chg → Bool} {w W : World} (h : PredC f lb p g w) (ho : Only g w W) : PredC f lb p g W := ⟨h.1, fun c V hV => h.2 c V (ho.trans hV)⟩

def IdxR (p : Chg → Bool) (d : Array Chg) (w : World) (e : Ending) (w' : World) : Prop :=
  Gr w w' ∧ ((e = .returned (.int .i64 (-1)) ∧ ∀ j, j < d.size → p d[j]! = false) ∨ ∃ k, k < d.size ∧ e = .returned (.int .i64 (k : Nat)) ∧ p d[k]! = true ∧ ∀ j, j < k → p d[j]! = false)
set_option maxRecDepth 100000 in
set_option maxHeartbeats 2000000 in
theorem idx_any (f : Nat) (lb : Array Value) (p : Chg → Bool) (g cap : Nat) (d : Array Chg) (w : World) (hr : RowC w g d) (hg : g < w.heap.size) (hsz : d.size ≤ 1000000) (hp : PredC f lb p g w) :
    Calls Try.prog 74 #[.slice (some ⟨g, 0, none⟩) d.size cap, .func (.func f) #[] lb] w (IdxR p d w) := by
  have HR := Lib.hid hr
  have eg := hp.1
  have HP := Lib.hid hp.2
  clear hr hp
  go_enter Try.func74, Try.ntmps74
  go_wp2
  go_loopw [8] (fun x wr => ∃ k : Nat, k ≤ d.size ∧ x = .int .i64 k ∧ Hid (∀ j, j < k → p d[j]! = false) ∧ Hid (Gr w wr)) (fun x _ => d.size - (intOf x).toNat)
  case atStart => exact ⟨0, by omega, rfl, Lib.hid (fun j hj => by omega), Lib.hid (Gr.refl w)⟩
  case round =>
    obtain ⟨k, hk, rfl, HA, HG⟩ := hrel
    by_cases hlt : k < d.size
    · obtain ⟨c0, c1, c2, c3⟩ := (HR.out.below HG.out.below hg).cell k hlt
      have C := Lib.hid (HP.out d[k]! wr (Only.of_below HG.out.below))
      have HB := Lib.hid (show p d[k]! = p d[k]! from rfl)
      have HL : Hid (∀ b, p d[k]! = b → ∀ j, j < k + 1 → (j < k → p d[j]! = false) → p d[j]! = false ∨ (j = k ∧ p d[j]! = b)) := Lib.hid fun b hb j hj h => by
        by_cases e : j < k
        · exact .inl (h e)
        · exact .inr ⟨by omega, by rw [show j = k by omega]; exact hb⟩
      have HD := Lib.hid (fun b => (show p d[k]! = b → p d[k]! = b from id))
      generalize hc : d[k]! = c at c0 c1 c2 c3 C
      unfold vC at C
      cases hb : p c with
      | true =>
        rw [hb] at C
        have HT := Lib.hid (show p d[k]! = true by rw [hc]; exact hb)
        clear hb hc HD HL HB
        go_wp2_with (go_at_fn f; refine C.out.mono ?_; rintro e w' ⟨rfl, hw'⟩)
        go_ret
        exact ⟨HG.out.trans hw', .inr ⟨k, hlt, rfl, HT.out, HA.out⟩⟩
      | false =>
        rw [hb] at C
        have HT := Lib.hid (show p d[k]! = false by rw [hc]; exact hb)
        clear hb hc HD HL HB
        go_wp2_with (go_at_fn f; refine C.out.mono ?_; rintro e w' ⟨rfl, hw'⟩)
        go_roundw
        case rel => exact ⟨k + 1, by omega, by go_num, Lib.hid (fun j hj => by
          by_cases e : j < k
          · exact HA.out j e
          · rw [show j = k by omega]; exact HT.out), Lib.hid (HG.out.trans hw')⟩
        case measure => simp [intOf]; omega
    · obtain rfl : k = d.size := by omega
      go_wp2
      go_ret
      exact ⟨HG.out, .inl ⟨rfl, HA.out⟩⟩
end Go.Proofs.Ytdpgmjmmnjbbiaa.Tl
