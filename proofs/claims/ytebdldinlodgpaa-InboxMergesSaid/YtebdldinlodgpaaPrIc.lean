/-
  Layer 8 (inbox): contracts of slices.SortFunc, Grow and Concat at events, and of ascending. Conditions: the lists read as events; they are not too long.
-/
import Derived.Test.YtebdldinlodgpaaPrIa
import Derived.Test.YtebdldinlodgpaaPrIl
import Derived.Test.YtebdldinlodgpaaShelf
import Derived.Test.YtebdldinlodgpaaPrAo
namespace Go.Proofs.Ytebdldinlodgpaa.Ib
open Go Go.RowKit Go.Lib Go.Sort Go.Shelf Go.Proofs Go.Proofs.Ytebdldinlodgpaa Go.Proofs.Ytebdldinlodgpaa.Tp Go.Proofs.Ytebdldinlodgpaa.Gm Go.Proofs.Ytebdldinlodgpaa.Rc Go.Proofs.Ytebdldinlodgpaa.SE
set_option linter.unusedVariables false

/-- A list of events at an address. -/
def Lst (w : World) (a : Option Addr) (n cap : Nat) (cs : List Ev) : Prop := ChgRow w w.heap.size a n cs ∧ (a = none → n = 0 ∧ cap = 0) ∧ n ≤ 9223372036854775807
theorem Lst.more {w w' : World} {a : Option Addr} {n cap : Nat} {cs : List Ev} (h : Lst w a n cap cs) (hb : Below w.heap.size w w') : Lst w' a n cap cs := ⟨(h.1.below hb).mono hb.size, h.2⟩
theorem Lst.news {w : World} {a : Option Addr} {n cap : Nat} {cs : List Ev} (h : Lst w a n cap cs) : (fl cs).length = n * 7 ∧ ∀ ad, a = some ad → ∀ j u, (fl cs)[j]? = some u → w.cell? (ad.add j) = some u := by
  refine ⟨by rw [fl_len, h.1.1], fun ad ha j u hj => ?_⟩
  have hp : 0 < n := by
    have := (List.getElem?_eq_some_iff.1 hj).1
    rw [fl_len, h.1.1] at this; omega
  obtain ⟨y, hy, _, hc⟩ := h.1.2 hp
  rw [ha] at hy; injection hy with hy; subst hy
  exact cells_row h.1.1 hc j u hj
theorem sort_asc (g cap : Nat) (d : Array Ev) (w : World) (hr : RowC w g d) (hg : g < w.heap.size) (hsz : d.size ≤ 1000000) :
    Calls Try.prog 85 #[.slice (some ⟨g, 0, none⟩) d.size cap, .func (.func 34) #[] #[]] w (SortR g (ascL cmpE d.toList) w) := by
  have eg : ∀ args w, (callFunc 34 args).run Try.prog w = .ok (.enter 34 args) w := enters_of Try.func34 (by kernel_rfl) rfl
  have hcon := AnyQ.slices_SortFunc_total Try.sortE 7 Try.isAgg26 Try.sizeOf26 encC (fun _ => rfl) encC_one cmpE totE.swo 34 #[] g 0 cap d w eg (fun m os dk _ x y => cmpe_any x y _) hr.holds hg (by omega) totE.tot
  refine hcon.mono ?_
  rintro e w' ⟨rfl, n, os, rfl⟩
  exact ⟨rfl, RowC.of_holds (holdsK_sortWorldK_c encC 7 w g 0 d _ n os hr.holds hg (by simp)), only_sortWorldK w g n _ os⟩
theorem sort_none (p : Option Addr) (cap : Nat) (fv : Value) (w : World) : Calls Try.prog 85 #[.slice p 0 cap, fv] w fun e w' => e = .returned (.tuple #[]) ∧ w' = w :=
  AnyF.slices_SortFunc_none Try.sortE p cap fv w
/-- A list of the call's own, behind a call: nothing, or a row. -/
def OwnO (l : List Ev) (w : World) (e : Ending) (w' : World) : Prop := ∃ a cap, e = .returned (.slice a l.length cap) ∧ ((a = none ∧ l = [] ∧ cap = 0) ∨ ∃ g, a = some ⟨g, 0, none⟩ ∧ RowC w' g l.toArray ∧ w.heap.size ≤ g ∧ g < w'.heap.size ∧ l.length ≤ cap) ∧ Below w.heap.size w w'
theorem eE_fl (l : List Ev) : l.flatMap eE = fl l := rfl
theorem OwnE.done {w W : World} {v : Value} {l : List Ev} (h : OwnE w v l W) : OwnO l w (.returned v) W := by
  rcases h.row.2 with ⟨rfl, h0⟩ | ⟨g, cap, cur, rfl, h1, h2, h3, _⟩
  · exact ⟨none, 0, by rw [h0], .inl ⟨rfl, List.length_eq_zero_iff.1 h0, rfl⟩, h.below⟩
  · obtain ⟨r1, r2, r3, r4⟩ := own_row h.row rfl
    exact ⟨_, cap, rfl, .inr ⟨g, rfl, r1, r2, r3, r4⟩, h.below⟩
theorem OwnO.lst {l : List Ev} {w w' : World} {a : Option Addr} {cap : Nat} (h : (a = none ∧ l = [] ∧ cap = 0) ∨ ∃ g, a = some ⟨g, 0, none⟩ ∧ RowC w' g l.toArray ∧ w.heap.size ≤ g ∧ g < w'.heap.size ∧ l.length ≤ cap) (hl : l.length ≤ 9223372036854775807) : Lst w' a l.length cap l := by
  rcases h with ⟨rfl, rfl, rfl⟩ | ⟨g, rfl, hr, h1, h2, h3⟩
  · exact ⟨⟨rfl, fun h => absurd h (by decide)⟩, fun _ => ⟨rfl, rfl⟩, by simp⟩
  · exact ⟨hr.row h2, fun h => (by cases h), hl⟩
theorem own_fresh (w : World) (cs : Array Value) (cap : Nat) (hcs : cs.size = cap * 7) (hcap : cap ≤ maxLen) : OwnE w (.slice (some ⟨w.heap.size, 0, none⟩) 0 cap) [] (w.drew.alloc (.cells cs 26)) :=
  ⟨⟨rfl, .inr ⟨w.heap.size, cap, cs, rfl, Nat.le_refl _, by show (w.heap.push _)[w.heap.size]? = _; simp, Nat.zero_le _, hcap, hcs, by simp⟩⟩, ((Below.refl _ _).drew).alloc (Nat.le_refl _) _⟩
theorem zc_size (m : Nat) : (Builtin.zeroCells (Value.agg #[.int .i64 0, .int .i64 0, .int .i64 0, .int .i64 0, .int .i64 0, .int .i64 0, .int .i64 0]).cells m).size = m * 7 := by simp [Builtin.zeroCells, Value.cells]
def GrowR (w : World) (e : Ending) (w' : World) : Prop := ∃ v, e = .returned v ∧ OwnE w v [] w'
theorem grow_nil (n : Nat) (hn : n ≤ 1000000) (w : World) : Calls Try.prog 94 #[.slice none 0 0, .int .i64 n] w (GrowR w) := by
  rcases Nat.eq_zero_or_pos n with h0 | h0
  · subst h0
    refine (Any8.slices_Grow_room Try.growE none 0 0 0 w (Nat.le_refl _) (by omega) (by omega) (by omega)).mono ?_
    rintro e w' ⟨rfl, rfl⟩
    exact ⟨_, rfl, OwnL.nil _ _ _ _⟩
  · obtain ⟨i0, hi, hz0, hz1, hz2⟩ := infoEv
    refine (Any8.slices_Grow_grow Try.growE i0 _ hi hz0 (by rw [hz1]; decide) none 0 0 n [] w (Nat.le_refl _) (by omega) (by rw [hz2]; omega) (by omega) (by simp) (fun _ => rfl) (fun a ha => by cases ha)).mono ?_
    rintro e w' ⟨rfl, rfl⟩
    refine ⟨_, rfl, own_fresh w _ _ ?_ (grownCap_le_maxLen w _ _ _ (by unfold maxLen; omega))⟩
    have hg := grownCap_ge w (0 + n) 0 26
    rw [Array.size_append, Array.size_append, zc_size, zc_size]
    show 0 + (0 + n - 0) * 7 + (grownCap w (0 + n) 0 26 - (0 + n)) * 7 = grownCap w (0 + n) 0 26 * 7
    omega
/-! ## Lists in a variadic argument -/
structure SL where
  a : Option Addr
  n : Nat
  c : Nat
  l : List Ev
instance : Inhabited SL := ⟨⟨none, 0, 0, []⟩⟩
structure LL (w : World) (s : Nat) (ls : List SL) : Prop where
  cell : ∀ i, i < ls.length → w.cell? ⟨s, i, none⟩ = some (.slice ls[i]!.a ls[i]!.n ls[i]!.c)
  lst : ∀ i, i < ls.length → Lst w ls[i]!.a ls[i]!.n ls[i]!.c ls[i]!.l
theorem LL.more {w w' : World} {s : Nat} {ls : List SL} (h : LL w s ls) (hb : Below w.heap.size w w') : LL w' s ls :=
  ⟨fun i hi => (hb.cell (World.block_lt_of_cell? w _ (h.cell i hi))).trans (h.cell i hi), fun i hi => (h.lst i hi).more hb⟩
def sumN (ls : List SL) (k : Nat) : Nat := ((ls.map (·.n)).take k).sum
theorem sumN_succ {ls : List SL} {k : Nat} (hk : k < ls.length) : sumN ls (k + 1) = sumN ls k + ls[k]!.n := by
  unfold sumN
  rw [List.take_succ_eq_append_getElem (by simpa using hk), getElem!_pos ls k hk, List.sum_append]
  simp
theorem sumN_le (ls : List SL) (k : Nat) : sumN ls k ≤ sumN ls ls.length := by
  unfold sumN
  have h := congrArg List.sum (List.take_append_drop k (ls.map (·.n)))
  rw [List.sum_append] at h
  rw [show ls.length = (ls.map (·.n)).length by simp, List.take_length]
  omega
def catN (ls : List SL) (k : Nat) : List Ev := (ls.take k).flatMap (·.l)
theorem catN_succ {ls : List SL} {k : Nat} (hk : k < ls.length) : catN ls (k + 1) = catN ls k ++ ls[k]!.l := by
  unfold catN
  rw [List.take_succ_eq_append_getElem hk, getElem!_pos ls k hk, List.flatMap_append]
  simp
theorem catN_len {w : World} {s : Nat} {ls : List SL} (h : LL w s ls) (k : Nat) (hk : k ≤ ls.length) : (catN ls k).length = sumN ls k := by
  induction k with
  | zero => simp [catN, sumN]
  | succ k ih => rw [catN_succ (by omega), sumN_succ (by omega), List.length_append, ih (by omega), (h.lst k (by omega)).1.1]
set_option maxRecDepth 100000 in
set_option maxHeartbeats 4000000 in
theorem concat_any (s k c : Nat) (ls : List SL) (hk : ls.length = k) (hk2 : k ≤ 1000) (hs : sumN ls k ≤ 1000000) (w : World) (hp : LL w s ls) :
    Calls Try.prog 84 #[.slice (some ⟨s, 0, none⟩) k c] w (OwnO (catN ls k) w) := by
  obtain ⟨i0, hi0, hz0, hz1, hz2⟩ := infoEv
  have HQ := Lib.hid (And.intro hi0 (And.intro hz0 (And.intro hz1 hz2)))
  have HP := Lib.hid hp
  have HK := Lib.hid hk
  have CL := Lib.hid (fun i hi => catN_len hp i hi)
  have HS : Hid (∀ i, sumN ls i ≤ 1000000) := Lib.hid fun i => Nat.le_trans (sumN_le ls i) (by rw [hk]; exact hs)
  have CG := Lib.hid (fun n hn W => grow_nil n hn W)
  clear hi0 hz0 hz1 hz2 hp hk hs
  go_enter Try.func84, Try.ntmps84
  go_wp2_with fail
  go_loop [3, 11] (fun z y => ∃ i : Nat, i ≤ k ∧ y = .int .i64 i ∧ z = .int .i64 (sumN ls i : Nat)) (fun _ y => k - (intOf y).toNat)
  case atStart => exact ⟨0, by omega, rfl, rfl⟩
  case round =>
    obtain ⟨i, hi, rfl, rfl⟩ := hrel
    by_cases hlt : i < k
    · have t0 : decide ((i : Int) < (k : Int)) = true := decide_eq_true (by omega)
      have i1 : (i : Int) < (k : Int) := by omega
      have c := HP.out.cell i (by rw [HK.out]; exact hlt)
      have hn := HS.out (i + 1)
      have hn0 := HS.out i
      have E := Lib.hid (sumN_succ (ls := ls) (k := i) (by rw [HK.out]; exact hlt))
      rw [E.out] at hn
      generalize sumN ls i = S at *
      generalize ls[i]! = x at *
      obtain ⟨a, n, cc, l⟩ := x
      simp only at c hn E
      have t1 : decide ((S : Int) + (n : Int) < 0) = false := decide_eq_false (by omega)
      go_wp2_with fail
      go_round
      case rel => exact ⟨i + 1, by omega, by go_num, by rw [E.out]; go_num⟩
      case measure => simp [intOf]; omega
    · obtain rfl : i = k := by omega
      have t0 : decide ((i : Int) < (i : Int)) = false := decide_eq_false (by omega)
      go_wp2_with fail
      refine (CG.out _ (HS.out i) _).mono ?_
      rintro e w1 ⟨v0, rfl, G0⟩
      have HG0 := Lib.hid G0
      clear G0 CG
      go_wp2_with fail
      go_loopw [6, 27] (fun v y wr => ∃ j : Nat, j ≤ i ∧ y = .int .i64 j ∧ Hid (OwnE w v (catN ls j) wr)) (fun _ y _ => i - (intOf y).toNat)
      case atStart => exact ⟨0, by omega, rfl, HG0⟩
      case round =>
        clear HG0
        obtain ⟨j, hj, rfl, HG⟩ := hrel
        by_cases hlt2 : j < i
        · have t1 : decide ((j : Int) < (i : Int)) = true := decide_eq_true (by omega)
          have i1 : (j : Int) < (i : Int) := by omega
          have HPr := Lib.hid (HP.out.more (OwnL.below HG.out))
          have hj2 : j < ls.length := by rw [HK.out]; exact hlt2
          have c := HPr.out.cell j hj2
          have L := Lib.hid (HPr.out.lst j hj2)
          have E := Lib.hid (catN_succ (ls := ls) (k := j) hj2)
          have N1 := Lib.hid (CL.out j (by omega))
          have N2 := Lib.hid (sumN_succ (ls := ls) (k := j) hj2)
          have N3 := Lib.hid (HS.out (j + 1))
          clear HPr hj2
          generalize ls[j]! = x at *
          obtain ⟨a, n, cc, l⟩ := x
          simp only at c E L N2
          have LN := Lib.hid L.out.1.1
          generalize catN ls j = L0 at *
          go_wp2_with (at_builtin; refine wpList_append_opt _ rfl _ _ 44 rfl w.heap.size 26 i0 (.agg #[.int .i64 0, .int .i64 0, .int .i64 0, .int .i64 0, .int .i64 0, .int .i64 0, .int .i64 0]) 7 56 Try.underlying44 HQ.out.1 HQ.out.2.1 HQ.out.2.2.1 HQ.out.2.2.2 rfl (by decide) _ _ _ rfl (OwnL.row HG.out) a n cc (fl l) rfl L.out.news.1 L.out.2.1 L.out.news.2 (fl_one l) ?q4 ?q5 (OwnL.below HG.out).size ?_)
          case q4 => have := N1.out; have := N2.out; have := N3.out; unfold maxLen; omega
          case q5 => have := N1.out; have := N2.out; have := N3.out; omega
          intro v1 x1 o1 g1 _
          have HG1 := Lib.hid (OwnL.grown (m := l) HG.out (by rw [LN.out]; exact o1) g1)
          clear o1 g1 HG
          go_wp2_with fail
          go_roundw
          case rel => exact ⟨j + 1, by omega, by go_num, by rw [E.out]; exact HG1⟩
          case measure => simp [intOf]; omega
        · obtain rfl : j = i := by omega
          have t1 : decide ((j : Int) < (j : Int)) = false := decide_eq_false (by omega)
          have HD := Lib.hid (OwnE.done HG.out)
          clear HG
          go_wp2_with fail
          go_ret
          exact HD.out
/-! ## ascending -/
theorem ascending_mem (l : List Ev) (x : Ev) : x ∈ setL cmpE l ↔ x ∈ l := mem_setL l x
set_option maxRecDepth 100000 in
set_option maxHeartbeats 4000000 in
theorem ascending_any (s k c : Nat) (ls : List SL) (hk : ls.length = k) (hk2 : k ≤ 1000) (hs : sumN ls k ≤ 1000000) (w : World) (hp : LL w s ls) :
    Calls Try.prog 63 #[.slice (some ⟨s, 0, none⟩) k c] w (OwnO (setL cmpE (catN ls k)) w) := by
  have C1 := Lib.hid (concat_any s k c ls hk hk2 hs w hp)
  have NL : Hid ((catN ls k).length ≤ 1000000) := Lib.hid (by rw [catN_len hp k (by omega)]; exact hs)
  unfold OwnO at C1
  generalize catN ls k = L at *
  clear hs hp hk hk2
  go_enter Try.func63, Try.ntmps63
  go_wp2_with fail
  refine C1.out.mono ?_
  rintro e w1 ⟨a, cap, rfl, ⟨rfl, rfl, rfl⟩ | ⟨g, rfl, hr, hg0, hg1, hc⟩, hb⟩
  · have HB := Lib.hid hb
    clear hb C1 NL
    go_wp2_with fail
    refine (sort_none _ _ _ _).mono ?_
    rintro e w2 ⟨rfl, rfl⟩
    go_wp2_with fail
    refine (SE.cps_none _).mono ?_
    rintro e w3 ⟨rfl, rfl⟩
    go_wp2_with fail
    go_ret
    have e0 : setL cmpE [] = [] := by simp [setL, ascL, comp]
    exact ⟨none, 0, by rw [e0]; rfl, .inl ⟨rfl, e0, rfl⟩, HB.out⟩
  · have HB := Lib.hid hb
    have HR := Lib.hid hr
    have C2 := Lib.hid (sort_asc g cap L.toArray w1 hr hg1 (by have := NL.out; simpa using this))
    have C3 : Hid (∀ W, RowC W g (ascL cmpE L).toArray → g < W.heap.size → Calls Try.prog 86 #[.slice (some ⟨g, 0, none⟩) L.length cap] W (DelR g cap (setL cmpE L) W)) := Lib.hid fun W h1 h2 => by
      have := SE.cps_own g cap (ascL cmpE L).toArray W h1 h2 (by have := NL.out; simpa [ascL_length] using this) (by simpa [ascL_length] using hc)
      rw [show (ascL cmpE L).toArray.size = L.length by simp [ascL_length]] at this
      exact this
    have LE := Lib.hid (setL_length (cmp := cmpE) L)
    unfold SortR at C2
    unfold DelR at C3
    rw [show L.toArray.toList = L from rfl, show L.toArray.size = L.length by simp] at C2
    have LC := Lib.hid hc
    have HG1 := Lib.hid hg1
    clear hb hr hc C1 NL
    generalize setL cmpE L = M at *
    generalize ascL cmpE L = A at *
    generalize L.length = N at *
    go_wp2_with fail
    refine C2.out.mono ?_
    rintro e w2 ⟨rfl, h2, o2⟩
    have R2 := Lib.hid h2
    have O2 := Lib.hid o2
    have G2 : g < w2.heap.size := Nat.lt_of_lt_of_le HG1.out o2.size
    clear h2 o2
    go_wp2_with fail
    refine (C3.out _ R2.out G2).mono ?_
    rintro e w3 ⟨rfl, h3, o3⟩
    have R3 := Lib.hid h3
    have O3 := Lib.hid o3
    have G3 : g < w3.heap.size := Nat.lt_of_lt_of_le G2 o3.size
    clear h3 o3
    go_wp2_with fail
    go_ret
    exact ⟨_, cap, rfl, .inr ⟨g, rfl, R3.out, hg0, G3, Nat.le_trans LE.out LC.out⟩, HB.out.trans ((O2.out.trans O3.out).below hg0 HB.out.size)⟩
end Go.Proofs.Ytebdldinlodgpaa.Ib
