/-
  Layer 4 (clock): the reference: contracts of first and of the loop of Instants; both give what the program gives. Conditions: the zone is valid and its changes lie in their cells.
-/
import Derived.Test.YtbbfkpkibakieaaPrZu
namespace Go.Proofs.Ytbbfkpkibakieaa
open Go Go.RowKit Go.Lib

theorem asc_all {b : Int} {cs : List (Int × Int)} (h : Asc b cs) : ∀ c ∈ cs, 0 ≤ c.1 ∧ c.1 ≤ 120968639 := by
  induction cs generalizing b with
  | nil => intro c hc; simp at hc
  | cons d r ih =>
    intro c hc
    obtain ⟨a1, a2, a3, a4, a5, a6⟩ := h
    rcases List.mem_cons.1 hc with rfl | hc
    · exact ⟨a2, a3⟩
    · exact ih a6 c hc
theorem seg_any (off : Int) (a : Option Addr) (n cap : Nat) (cs : List (Int × Int)) (k : Nat) (hv : vE off cs = 0) (hk : k ≤ n) (w : World) (hr : ChRow w w.heap.size a n cs) :
    Calls Try.prog 40 #[.agg #[.int .i64 off, .slice a n cap], .int .i64 (k : Int)] w (SegR off cs k w) := by
  obtain ⟨h1, _, _, h4⟩ := vE_parts hv
  have ha := asc_all h4
  have hl := hr.1
  rcases k with _ | j
  · rcases Nat.eq_zero_or_pos n with h0 | h0
    · exact seg_00 off a n cap cs h0 w hr
    · exact seg_0p off a n cap cs h0 ha w hr
  · rcases (by omega : n = j + 1 ∨ j + 1 < n) with h0 | h0
    · exact seg_s0 off a n cap cs j h0 (by omega) w hr
    · exact seg_sp off a n cap cs j h0 (by omega) ha w hr

/-- The reference's first, of parts in ascending order. -/
def rF (l : Int) : List Span → Int
  | [] => END
  | s :: r => if s.2.1 - 1 < s.1 ∨ s.2.1 - 1 + s.2.2 < l then rF l r else if l ≤ s.1 + s.2.2 then s.1 else l - s.2.2
theorem rF_eq (l : Int) (S : List Span) (h : ∀ s ∈ S, s.1 ≤ s.2.1) : rF l S = S.foldr (fun s f => stF l f s) END := by
  induction S with
  | nil => rfl
  | cons s r ih =>
    have h1 := h s (by simp)
    have e := ih (fun q hq => h q (by simp [hq]))
    rw [List.foldr_cons, ← e]
    show (if s.2.1 - 1 < s.1 ∨ s.2.1 - 1 + s.2.2 < l then rF l r else if l ≤ s.1 + s.2.2 then s.1 else l - s.2.2) = _
    unfold stF
    split <;> split <;> (try split) <;> (try split) <;> omega
theorem spL_sg (off : Int) (cs : List (Int × Int)) : (0 < toO END cs.reverse ∧ spL off cs = (sg 0 off cs).reverse) ∨ (¬ 0 < toO END cs.reverse ∧ (sg 0 off cs).reverse = spL off cs ++ [(0, toO END cs.reverse, off)]) := by
  have e := sg_rev 0 off cs
  by_cases h : 0 < toO END cs.reverse
  · left; exact ⟨h, by rw [spL_eq, ← e]; unfold lastP; rw [if_pos h]⟩
  · right; exact ⟨h, by rw [spL_eq, ← e]; unfold lastP; rw [if_neg h, List.append_nil]⟩
theorem nearT_st {l f : Int} {s : Span} (h1 : 0 ≤ s.1) (h2 : s.1 ≤ s.2.1) (h3 : s.2.1 ≤ END) (h4 : -840 ≤ s.2.2) (h5 : s.2.2 ≤ 840) : stF (nearT l) f s = stF l f s := by
  unfold END at h3
  unfold nearT stF
  split
  · rw [if_neg (show ¬ s.1 < -841 - s.2.2 by omega), if_neg (show ¬ s.1 < l - s.2.2 by omega)]
  · split
    · split <;> split <;> (try split) <;> (try split) <;> omega
    · rfl
theorem fold_near (l : Int) (S : List Span) (h : ∀ s ∈ S, 0 ≤ s.1 ∧ s.1 ≤ s.2.1 ∧ s.2.1 ≤ END ∧ -840 ≤ s.2.2 ∧ s.2.2 ≤ 840) (f : Int) : S.foldl (stF (nearT l)) f = S.foldl (stF l) f := by
  induction S generalizing f with
  | nil => rfl
  | cons s r ih =>
    obtain ⟨h1, h2, h3, h4, h5⟩ := h s (by simp)
    rw [List.foldl_cons, List.foldl_cons, nearT_st h1 h2 h3 h4 h5]
    exact ih (fun q hq => h q (by simp [hq])) _
theorem stF_empty {l f to off : Int} (h : ¬ 0 < to) : stF l f (0, to, off) = f := by
  unfold stF; dsimp only; split <;> (try split) <;> first | rfl | omega
/-- Both give the same first instant, for any integer. -/
theorem first_same {off : Int} {cs : List (Int × Int)} (h : vE off cs = 0) (l : Int) : rF l (sg 0 off cs) = fV (nearT l) (spL off cs) := by
  have hg := sg_good h
  have hs := spL_ok h
  have e1 : fV (nearT l) (spL off cs) = (spL off cs).foldl (stF l) END := fold_near l _ (fun s hs' => by obtain ⟨a, b, c, d, e⟩ := hs s hs'; exact ⟨a, by omega, c, d, e⟩) END
  rw [e1, rF_eq l _ (fun s hs' => (hg s hs').2.1)]
  have e2 : (sg 0 off cs).foldr (fun s f => stF l f s) END = (sg 0 off cs).reverse.foldl (stF l) END := by rw [List.foldl_reverse]
  rw [e2]
  rcases spL_sg off cs with ⟨_, e3⟩ | ⟨h0, e3⟩
  · rw [e3]
  · rw [e3, List.foldl_append]
    exact stF_empty h0
/-- The reference's instants, of parts in ascending order. -/
def rI (l : Int) (S : List Span) : List Int := S.filterMap fun s => if s.1 + s.2.2 ≤ l ∧ l ≤ s.2.1 - 1 + s.2.2 then some (l - s.2.2) else none
theorem fm_congr {α β : Type} {f g : α → Option β} {S : List α} (h : ∀ s ∈ S, f s = g s) : S.filterMap f = S.filterMap g := by
  induction S with
  | nil => rfl
  | cons s r ih =>
    have e := ih (fun q hq => h q (by simp [hq]))
    have e2 := h s (by simp)
    simp only [List.filterMap_cons, e, e2]
theorem instants_same {off : Int} {cs : List (Int × Int)} (h : vE off cs = 0) (l : Int) : rI l (sg 0 off cs) = (iL (nearT l) (spL off cs)).reverse := by
  have hg := sg_good h
  have e1 : rI l (sg 0 off cs) = iL (nearT l) (sg 0 off cs) := fm_congr fun s hs => by
    obtain ⟨a, b, c, d, e⟩ := hg s hs
    unfold END at c
    by_cases k : s.1 + s.2.2 ≤ l ∧ l ≤ s.2.1 - 1 + s.2.2
    · have en : nearT l = l := by unfold nearT; rw [if_neg (by omega), if_neg (by omega)]
      rw [if_pos k, en, if_pos (by omega)]
    · rw [if_neg k, if_neg (by unfold nearT; split <;> (try split) <;> omega)]
  rw [e1]
  have e2 : iL (nearT l) (sg 0 off cs) = (iL (nearT l) (sg 0 off cs).reverse).reverse := by unfold iL; rw [List.filterMap_reverse, List.reverse_reverse]
  rw [e2]
  rcases spL_sg off cs with ⟨_, e3⟩ | ⟨h0, e3⟩
  · rw [e3]
  · rw [e3, iL_snoc, if_neg (by show ¬ ((0 : Int) ≤ _ ∧ _ < toO END cs.reverse); omega), List.append_nil]

set_option maxRecDepth 100000 in
set_option maxHeartbeats 2000000 in
theorem rfirst_at (off : Int) (a : Option Addr) (n cap : Nat) (cs : List (Int × Int)) (l : Int) (l0 : -9223372036854775808 ≤ l) (l1 : l ≤ 9223372036854775807) (hv : vE off cs = 0) (w : World) (hr : ChRow w w.heap.size a n cs) :
    Calls Try.prog 42 #[.agg #[.int .i64 off, .slice a n cap], .int .i64 l] w fun e w' => e = .returned (.int .i64 (rF l (sg 0 off cs))) ∧ Below w.heap.size w w' := by
  have R0 := RZ.new (off := off) (cap := cap) hr
  have hl := hr.1
  have hn := (vE_parts hv).1
  have hlen := sg_length 0 off cs
  have HG := Lib.hid (sg_good hv)
  have HSeg := Lib.hid (fun k hk => seg_any off a n cap cs k hv hk)
  go_enter Try.func42, Try.ntmps42
  go_wp2
  go_loopw [5] (fun iv wr => ∃ k : Nat, k ≤ n + 1 ∧ iv = .int .i64 k ∧ Hid (rF l (sg 0 off cs) = rF l ((sg 0 off cs).drop k)) ∧ Hid (RZ w off a n cap cs wr)) (fun iv _ => n + 1 - (Go.RowKit.intOf iv).toNat)
  case atStart => exact ⟨0, by omega, rfl, Lib.hid rfl, Lib.hid R0⟩
  case round =>
    obtain ⟨k, hk, rfl, HS, HR⟩ := hrel
    clear R0
    have z0 := HR.out.box.c0
    have z1 := HR.out.box.c1
    by_cases hlt : k ≤ n
    · have hk' : k < (sg 0 off cs).length := by omega
      have hD := List.drop_eq_getElem_cons hk'
      have hE := sg_get cs 0 off k hk'
      obtain ⟨b1, b2, b3, b4, b5⟩ := HG.out _ (List.getElem_mem hk')
      rw [hE] at b1 b2 b3 b4 b5 hD
      have HD := Lib.hid hD
      have C := Lib.hid (HSeg.out k hlt wr HR.out.row)
      unfold SegR at C
      dsimp only at b1 b2 b3 b4 b5
      generalize sFrom 0 cs k = f at *
      generalize sTo cs k = t at *
      generalize sOff off cs k = o at *
      have hr1 : rF l ((f, t, o) :: (sg 0 off cs).drop (k + 1)) = if t - 1 < f ∨ t - 1 + o < l then rF l ((sg 0 off cs).drop (k + 1)) else if l ≤ f + o then f else l - o := rfl
      have H1 := Lib.hid hr1
      unfold END at b3
      have hl2 : n ≤ 64 := by omega
      clear hD hE hr1 hl hn hlen hk'
      by_cases h1 : t - 1 < f
      · go_wp2_with fail
        refine (C.out).mono ?_
        rintro e w1 ⟨rfl, hw1⟩
        have R1 := HR.out.step hw1
        go_wp2_with fail
        go_roundw
        case rel => exact ⟨k + 1, by omega, by go_num, Lib.hid (by rw [HS.out, HD.out, H1.out, if_pos (by omega)]), Lib.hid R1⟩
        case measure => simp [Go.RowKit.intOf]; omega
      · by_cases h2 : t - 1 + o < l
        · go_wp2_with fail
          refine (C.out).mono ?_
          rintro e w1 ⟨rfl, hw1⟩
          have R1 := HR.out.step hw1
          go_wp2_with fail
          go_roundw
          case rel => exact ⟨k + 1, by omega, by go_num, Lib.hid (by rw [HS.out, HD.out, H1.out, if_pos (by omega)]), Lib.hid R1⟩
          case measure => simp [Go.RowKit.intOf]; omega
        · by_cases h3 : l ≤ f + o
          · go_wp2_with fail
            refine (C.out).mono ?_
            rintro e w1 ⟨rfl, hw1⟩
            have R1 := HR.out.step hw1
            go_wp2_with fail
            go_ret
            exact ⟨retI (by rw [HS.out, HD.out, H1.out, if_neg (by omega), if_pos h3]), R1.below⟩
          · go_wp2_with fail
            refine (C.out).mono ?_
            rintro e w1 ⟨rfl, hw1⟩
            have R1 := HR.out.step hw1
            go_wp2_with fail
            go_ret
            exact ⟨retI (by rw [HS.out, HD.out, H1.out, if_neg (by omega), if_neg (by omega)]), R1.below⟩
    · go_wp2_with fail
      go_ret
      exact ⟨retI (by rw [HS.out, List.drop_eq_nil_of_le (by omega)]; rfl), HR.out.below⟩
theorem rfirst_any (off : Int) (a : Option Addr) (n cap : Nat) (cs : List (Int × Int)) (l : Int) (l0 : -9223372036854775808 ≤ l) (l1 : l ≤ 9223372036854775807) (hv : vE off cs = 0) (w : World) (hr : ChRow w w.heap.size a n cs) :
    Calls Try.prog 42 #[.agg #[.int .i64 off, .slice a n cap], .int .i64 l] w fun e w' => e = .returned (.int .i64 (fV (nearT l) (spL off cs))) ∧ Below w.heap.size w w' := by
  rw [← first_same hv]; exact rfirst_at off a n cap cs l l0 l1 hv w hr
end Go.Proofs.Ytbbfkpkibakieaa
