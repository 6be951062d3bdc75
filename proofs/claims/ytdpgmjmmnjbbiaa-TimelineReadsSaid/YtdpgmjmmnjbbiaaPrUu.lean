/-
  Layer 6 (timeline): the walk of TimelineOrderless: the answer is true. No condition.
-/
import Derived.Test.YtdpgmjmmnjbbiaaPrUt
import Derived.Deep.RegionHeld3
import Derived.Deep.DeepCutAuto
namespace Go.Proofs.Ytdpgmjmmnjbbiaa.Tl
open Go Go.RowKit Go.Lib Go.Sort Go.Shelf Go.Proofs Go.Proofs.Ytdpgmjmmnjbbiaa Go.Proofs.Ytdpgmjmmnjbbiaa.Tp
set_option linter.unusedVariables false

/-- Where a slice that begins later begins. -/
def from' (a : Option Addr) (cap k : Nat) : Option Addr := if cap = k then a else Option.map (fun x => x.add (k * 4)) a
theorem Lst.tail {w : World} {a : Option Addr} {n cap : Nat} {cs : List Chg} (h : Lst w a n cap cs) (hc : n ≤ cap) (hz : ∀ x, a = some x → ∃ g, x = ⟨g, 0, none⟩) (k : Nat) (hk : k ≤ n) : Lst w (from' a cap k) (n - k) (cap - k) (cs.drop k) := by
  unfold from'
  by_cases e : cap = k
  · rw [if_pos e]
    have e2 : n - k = 0 := by omega
    rw [e2]
    exact ⟨⟨by rw [List.length_drop, h.1.1, e2], fun h => absurd h (by omega)⟩, fun _ => ⟨rfl, by omega⟩, by omega⟩
  · rw [if_neg e]
    cases a with
    | none => have := h.2.1 rfl; omega
    | some x =>
      obtain ⟨g, rfl⟩ := hz x rfl
      have e3 : Option.map (fun x : Addr => x.add (k * 4)) (some ⟨g, 0, none⟩) = some ⟨g, k * 4, none⟩ := by simp [Addr.add_lit]
      rw [e3]
      exact ⟨row_drop h.1 k hk, fun h => (by cases h), by have := h.2.2; omega⟩
theorem Lst.head {w : World} {a : Option Addr} {n cap : Nat} {cs : List Chg} (h : Lst w a n cap cs) (k : Nat) (hk : k ≤ n) : Lst w a k cap (cs.take k) :=
  ⟨row_take h.1 k hk, fun e => by have := h.2.1 e; exact ⟨by omega, this.2⟩, by have := h.2.2; omega⟩
theorem OwnA.zero {l : List Chg} {w w' : World} {a : Option Addr} {cap : Nat} (h : OwnA l w w' a cap) : l.length ≤ cap ∧ ∀ x, a = some x → ∃ g, x = ⟨g, 0, none⟩ := by
  rcases h with ⟨rfl, rfl, rfl⟩ | ⟨g, rfl, _, _, _, h⟩
  · exact ⟨by simp, fun x h => (by cases h)⟩
  · exact ⟨h, fun x hx => by injection hx with hx; exact ⟨g, hx.symm⟩⟩
theorem mrg_ok {l m : List Chg} (hl : valE l = 0) (hm : valE m = 0) (hu : l.length + m.length ≤ 1024) : mrgE l m = 0 ∧ mrgL l m = unionL l m := by
  have h : mrgE l m = 0 := by
    unfold mrgE
    rw [if_neg (by simp [hl]), if_neg (by simp [hm]), if_neg (by have := unionL_length l m; omega)]
  exact ⟨h, if_pos h⟩
/-- Merge at two valid lists. -/
theorem merge_ok {l m u : List Chg} (hl : valE l = 0) (hm : valE m = 0) (hu : l.length + m.length ≤ 1024) (he : unionL l m = u) (a : Option Addr) (na ca : Nat) (b : Option Addr) (nb cb : Nat) (w : World) (ha : Lst w a na ca l) (hb : Lst w b nb cb m) :
    Calls Try.prog 14 #[.slice a na ca, .slice b nb cb] w (fun e w' => ∃ x c, e = .returned (.tuple #[.slice x u.length c, .int .i64 0]) ∧ OwnA u w w' x c ∧ Below w.heap.size w w') := by
  obtain ⟨h1, h2⟩ := mrg_ok hl hm hu
  have := merge_any a na ca l b nb cb m w ha hb
  unfold MrgR at this
  rw [h1, h2, he] at this
  exact this

theorem orderless_tru {w W : World} (h : Below w.heap.size w W) : TrueR w (.returned (.bool true)) W := ⟨rfl, h⟩
set_option maxRecDepth 100000 in
set_option maxHeartbeats 16000000 in
theorem orderless_walk (t0 : Option Addr) (len cap : Nat) (zs : List Int) (nn : Int) (hv0 : -9223372036854775808 ≤ nn) (hv1 : nn ≤ 9223372036854775807) (w : World) (hr : IsRow w t0 len cap zs) (hlen : len ≤ 9223372036854775807) :
    Calls Try.prog 5 #[.slice t0 len cap, .int .i64 nn] w (TrueR w) := by
  have T0 := Lib.hid (tape_new hr hlen 45)
  have B0 := Lib.hid (show Below w.heap.size w (w.alloc (.cells #[.slice t0 len cap, .int .i64 0] 45)) from (Below.refl _ _).alloc (Nat.le_refl _) _)
  obtain ⟨i0, hi0, hz0, hz1, hz2⟩ := info4
  have HQ := Lib.hid (And.intro hi0 (And.intro hz0 (And.intro hz1 hz2)))
  have MO := Lib.hid (fun W => mod_any nn 8 hv0 hv1 (by omega) (by omega) W)
  generalize modT nn 8 = K at *
  clear hr hlen hi0 hz0 hz1 hz2 hv0 hv1
  go_enter Try.func5, Try.ntmps5
  go_wp2_with fail
  refine (gnew_any t0 len cap _).mono ?_
  rintro e w0 ⟨rfl, rfl⟩
  go_wp2_with fail
  refine (changes_any w.heap.size 8 false (by omega) _ T0.out).mono ?_
  rintro e w1 ⟨a, ca, cs, rfl, hA, hcl, hG, T1, O1⟩
  have HT1 := Lib.hid T1
  have NB := Lib.hid (hA.ne (b := w.heap.size) (by simp))
  have L1 := Lib.hid (hA.lst (by omega))
  have ZA := Lib.hid hA.zero
  have B1 := Lib.hid (B0.out.trans (O1.below (Nat.le_refl _) B0.out.size))
  have HGC := Lib.hid hG
  clear T0 B0 hA hG T1 O1
  generalize hn : cs.length = n at *
  have HN := Lib.hid hn
  clear hn
  have w1' : IntKind.i64.wrap ((n : Int) + 1) = (n : Int) + 1 := by rw [IntKind.wrap_i64]; omega
  go_wp2_with fail
  refine (next_any w.heap.size ((n : Int) + 1) (by omega) (by omega) _ HT1.out).mono ?_
  rintro e w2 ⟨F, rfl, F0, F1, T2, O2⟩
  have HT2 := Lib.hid T2
  have L2 := Lib.hid (L1.out.only O2 NB.out)
  have B2 := Lib.hid (B1.out.trans (O2.below (Nat.le_refl _) B1.out.size))
  clear T2 O2 HT1 L1 B1 w1'
  obtain ⟨k, rfl⟩ := Int.eq_ofNat_of_zero_le F0
  have hk : k ≤ n := by omega
  have k0 : (0 : Int) ≤ (k : Int) := by omega
  have k1 : (k : Int) ≤ (n : Int) := by omega
  have k2 : (k : Int) ≤ (ca : Int) := by have := ZA.out.1; omega
  clear F0 F1
  have hif : (if ca = k then a else Option.map (fun x => x.add (k * 4)) a) = from' a ca k := rfl
  have HLT := Lib.hid (fun W (h : Lst W a n ca cs) => h.tail ZA.out.1 ZA.out.2 k hk)
  have HLH := Lib.hid (fun W (h : Lst W a n ca cs) => h.head k hk)
  have E1 := Lib.hid (valE_zero (l := cs.take k) (by rw [List.length_take, HN.out]; omega) fun c hc => (HGC.out c (List.mem_of_mem_take hc)).err)
  have E2 := Lib.hid (valE_zero (l := cs.drop k) (by rw [List.length_drop, HN.out]; omega) fun c hc => (HGC.out c (List.mem_of_mem_drop hc)).err)
  have E3 := Lib.hid (valE_zero (l := cs) (by rw [HN.out]; omega) fun c hc => (HGC.out c hc).err)
  have E4 := Lib.hid (valE_zero (l := cs.drop k ++ cs.take k) (by rw [List.length_append, List.length_drop, List.length_take, HN.out]; omega) fun c hc => (by
    rcases List.mem_append.1 hc with h1 | h1
    · exact (HGC.out c (List.mem_of_mem_drop h1)).err
    · exact (HGC.out c (List.mem_of_mem_take h1)).err))
  have MEM : ∀ x, (x ∈ cs.take k ∨ x ∈ cs.drop k) ↔ x ∈ cs := fun x => by
    rw [← List.mem_append, List.take_append_drop]
  have UE := Lib.hid (show unionL (cs.drop k ++ cs.take k) cs = unionL (cs.take k) (cs.drop k) from unionL_congr fun x => by
    rw [List.mem_append, MEM, Or.comm (a := x ∈ cs.drop k), MEM]; simp)
  have IE := Lib.hid (show ∀ d, valL (unionL (cs.take k) (cs.drop k)) K d = valL cs K d from fun d => by
    unfold valL; rw [inL_union, List.take_append_drop])
  have E5 := Lib.hid (valE_zero (l := unionL (cs.take k) (cs.drop k)) (by have := unionL_length (cs.take k) (cs.drop k); rw [List.length_drop, List.length_take, HN.out] at this; omega) fun c hc => (HGC.out c ((MEM c).1 ((mem_unionL _ _ c).1 hc))).err)
  have ln1 : (cs.take k).length = k := by rw [List.length_take, HN.out]; omega
  have ln2 : (cs.drop k).length = n - k := by rw [List.length_drop, HN.out]
  have LN := Lib.hid (And.intro ln1 ln2)
  have UL := Lib.hid (show (unionL (cs.take k) (cs.drop k)).length ≤ 8 from by have := unionL_length (cs.take k) (cs.drop k); omega)
  have MG1 := Lib.hid (fun a na ca b nb cb W ha hb => merge_ok E1.out E2.out (by rw [LN.out.1, LN.out.2]; omega) rfl a na ca b nb cb W ha hb)
  have MG2 := Lib.hid (fun a na ca b nb cb W ha hb => merge_ok E4.out E3.out (by rw [List.length_append, LN.out.1, LN.out.2, HN.out]; omega) UE.out a na ca b nb cb W ha hb)
  clear ln1 ln2 MEM E1 E2 E4 UE HGC
  generalize unionL (cs.take k) (cs.drop k) = us at *
  go_upto_region 4 with fail
  generalize hw3 : w2 = w3 at *
  clear hw3
  have own1 := Lib.hid (OwnG.drew (OwnG.lit (w0 := w3) (W := w3) (Below.refl _ _)))
  have NW := Lib.hid (fun W (hb : Below w3.heap.size w3 W) => (HLT.out _ (L2.out.more hb)).news)
  have NH := Lib.hid (fun W (hb : Below w3.heap.size w3 W) => (HLH.out _ (L2.out.more hb)).news)
  have hnil := Lib.hid (HLT.out _ L2.out).2.1
  have hnih := Lib.hid (HLH.out _ L2.out).2.1
  have hq1 : ([] : List Chg).length + (n - k) ≤ maxLen := by unfold maxLen; simp; omega
  have hq2 : (([] : List Chg).length + (n - k)) * 32 ≤ 140737488355328 := by simp; omega
  have hq3 : (cs.drop k).length + k ≤ maxLen := by unfold maxLen; rw [LN.out.2]; omega
  have hq4 : ((cs.drop k).length + k) * 32 ≤ 140737488355328 := by rw [LN.out.2]; omega
  go_cut [8] (fun sl wx => Hid (OwnG w3 sl (cs.drop k ++ cs.take k) wx))
  case first =>
    clear MG1 MG2 E3 E5 IE UL HT2
    go_region_held3 (fun w' => True) (trivial)
      (first
        | (refine step_append_opt rfl _ _ _ rfl w3.heap.size 42 i0 (.agg #[.int .i64 0, .int .i64 0, .int .i64 0, .bool false]) 4 32 Try.underlying23 HQ.out.1 HQ.out.2.1 HQ.out.2.2.1 HQ.out.2.2.2 rfl (by decide) _ _ _ rfl own1.out.row (from' a ca k) (n - k) (ca - k) (fl (cs.drop k)) rfl (NW.out _ own1.out.below).1 hnil.out (NW.out _ own1.out.below).2 (fl_one _) hq1 hq2 own1.out.below.size ?_; intro v1 wA o1 g1; have G1 := OwnG.first (m := cs.drop k) own1.out (by rw [LN.out.2]; exact o1) g1; clear o1 g1)
        | (refine step_append_opt rfl _ _ _ rfl w3.heap.size 42 i0 (.agg #[.int .i64 0, .int .i64 0, .int .i64 0, .bool false]) 4 32 Try.underlying23 HQ.out.1 HQ.out.2.1 HQ.out.2.2.1 HQ.out.2.2.2 rfl (by decide) _ _ _ rfl G1.row a k ca (fl (cs.take k)) rfl (NH.out _ G1.below).1 hnih.out (NH.out _ G1.below).2 (fl_one _) hq3 hq4 G1.below.size ?_; intro v2 wB o2 g2; have G2 := OwnG.grown (m := cs.take k) G1 (by rw [LN.out.1]; exact o2) g2; clear o2 g2))
    all_goals
      go_wp2_with fail
      go_meet
      exact Lib.hid G2
  case rest =>
    clear own1 NW NH hnil hnih hq1 hq2 hq3 hq4 HQ
    obtain ⟨a2, c2, hv, hA2, hb5⟩ := hcut.out.done
    injection hv with hv
    subst hv
    have HT5 := Lib.hid (HT2.out.below hb5)
    have L5 := Lib.hid (L2.out.more hb5)
    have M5 := Lib.hid (OwnO.lst hA2 (by rw [List.length_append, LN.out.1, LN.out.2]; omega))
    have NB2 : Hid (∀ x, a2 = some x → x.block ≠ w.heap.size) := Lib.hid (OwnA.ne (show OwnA _ w3 wc a2 c2 from hA2) HT2.out.lt)
    have B5 := Lib.hid (B2.out.trans (hb5.mono B2.out.size))
    clear hA2 hb5 hcut HT2 L2 B2
    generalize hm : (cs.drop k ++ cs.take k).length = nm at *
    clear hm
    have LH5 := Lib.hid (HLH.out _ L5.out)
    have LT5 := Lib.hid (HLT.out _ L5.out)
    generalize hw5 : wc = w5 at *
    clear hw5
    go_upto_region 5 with fail
    go_cut [9, 10] (fun sl er wx => er = .int .i64 0 ∧ ∃ x c, sl = .slice x us.length c ∧ Hid (OwnA us w5 wx x c) ∧ Hid (Below w5.heap.size w5 wx))
    case first =>
      go_region_held3 (fun w' => True) (trivial)
        (first
          | (go_at_call 14; (refine (MG1.out a k ca (from' a ca k) (n - k) (ca - k) _ (LH5.out.more (Below.drew (Below.refl _ _))) (LT5.out.more (Below.drew (Below.refl _ _)))).mono ?_); rintro e w6 ⟨x, c, rfl, h6, b6⟩; have O6 : Hid (OwnA us w5 w6 x c) := Lib.hid h6; have G6 : Hid (Below w5.heap.size w5 w6) := Lib.hid ((Below.drew (Below.refl _ _)).trans b6); clear h6 b6))
      all_goals
        go_wp2_with fail
        go_meet
        exact ⟨rfl, x, c, rfl, O6, G6⟩
    case rest =>
      obtain ⟨rfl, x5, c5, rfl, hA6, hb6⟩ := hcut
      have NB3 := Lib.hid (hA6.out.ne (b := w.heap.size) HT5.out.lt)
      have U6 := Lib.hid (hA6.out.lst (by have := UL.out; omega))
      have HT6 := Lib.hid (HT5.out.below hb6.out)
      have L6 := Lib.hid (L5.out.more hb6.out)
      have M6 := Lib.hid (M5.out.more hb6.out)
      have B6 := Lib.hid (B5.out.trans (hb6.out.mono B5.out.size))
      clear hA6 hb6 HT5 L5 M5 B5 MG1 LH5 LT5 hif HLH HLT k0 k1 k2
      have C0 := Lib.hid (MG2.out a2 nm c2 a n ca _ M6.out L6.out)
      clear MG2
      go_wp2_with fail
      refine C0.out.mono ?_
      rintro e w7 ⟨x6, c6, rfl, h7, b7⟩
      have V7 := Lib.hid (h7.lst (by have := UL.out; omega))
      have U7 := Lib.hid (U6.out.more b7)
      have HT7 := Lib.hid (HT6.out.below b7)
      have L7 := Lib.hid (L6.out.more b7)
      have B7 := Lib.hid (B6.out.trans (b7.mono B6.out.size))
      clear h7 b7 U6 HT6 L6 M6 B6 C0 NB2
      have UL2 := UL.out
      clear UL
      generalize hnu : us.length = nu at *
      clear hnu
      have S0 := Lib.hid (same_one x5 nu c5 x6 c6 us (by omega) _ U7.out.1 V7.out.1)
      clear V7
      go_wp2_with (go_at_call 15; (with_reducible refine S0.out.mono ?_); rintro e w8 ⟨rfl, b8⟩)
      have U8 := Lib.hid (U7.out.more b8)
      have HT8 := Lib.hid (HT7.out.below b8)
      have L8 := Lib.hid (L7.out.more b8)
      have B8 := Lib.hid (B7.out.trans (b8.mono B7.out.size))
      clear b8 S0 U7 HT7 L7 B7
      refine (day_any w.heap.size _ HT8.out).mono ?_
      rintro e w9 ⟨D, rfl, D0, D1, T9, O9⟩
      have L9 := Lib.hid (L8.out.only O9 NB.out)
      have U9 := Lib.hid (U8.out.only O9 NB3.out)
      have B9 := Lib.hid (B8.out.trans (O9.below (Nat.le_refl _) B8.out.size))
      clear T9 O9 HT8 L8 U8 B8
      have hd1 : 0 ≤ D ∧ D ≤ 84005 := ⟨D0, D1⟩
      have C1 := Lib.hid (fun W h => at_ok a n ca cs D K W h E3.out hd1)
      have C2 := Lib.hid (fun W h => at_ok x5 nu c5 us D K W h E5.out hd1)
      rw [IE.out] at C2
      clear E3 E5 IE
      generalize valL cs K D = o1 at *
      unfold AtV at C1 C2
      have n1 : (o1.getD 0 == o1.getD 0) = true := by simp
      have n2 : (o1.isSome == o1.isSome) = true := by simp
      generalize hp1 : o1.getD 0 = p1 at *
      generalize hs1 : o1.isSome = s1 at *
      clear hp1 hs1 hd1
      go_wp2_with fail
      refine (MO.out _).mono ?_
      rintro e w10 ⟨rfl, rfl⟩
      clear MO
      go_wp2_with fail
      refine (C1.out _ L9.out).mono ?_
      rintro e w11 ⟨rfl, b11⟩
      have U11 := Lib.hid (U9.out.more b11)
      have B11 := Lib.hid (B9.out.trans (b11.mono B9.out.size))
      clear b11 C1 L9 U9 B9
      go_wp2_with fail
      refine (C2.out _ U11.out).mono ?_
      rintro e w12 ⟨rfl, b12⟩
      have B12 := Lib.hid (B11.out.trans (b12.mono B11.out.size))
      clear b12 C2 U11 B11
      go_wp2_with (go_at_call 12; (with_reducible refine (sane_any _).mono ?_); rintro e w13 ⟨rfl, b13⟩)
      go_ret
      exact ⟨rfl, B12.out.trans (b13.mono B12.out.size)⟩
end Go.Proofs.Ytdpgmjmmnjbbiaa.Tl
