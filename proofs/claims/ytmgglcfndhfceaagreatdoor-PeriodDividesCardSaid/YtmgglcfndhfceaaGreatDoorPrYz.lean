/-
  Layer 5 (period): the walk of PeriodDivides: the answer is true. Condition: the table of month lengths reads as the program's text lays it.
-/
import Derived.Test.YtmgglcfndhfceaaGreatDoorPrY2
import Derived.Test.YtmgglcfndhfceaaGreatDoorPrY3
import Derived.Test.YtmgglcfndhfceaaGreatDoorPrYv
namespace Go.Proofs.YtmgglcfndhfceaaGreatDoor.Per
open Go Go.RowKit Go.Lib Go.Sort Go.Shelf Go.Proofs Go.Proofs.YtmgglcfndhfceaaGreatDoor Go.Proofs.YtmgglcfndhfceaaGreatDoor.Cal Go.Proofs.YtmgglcfndhfceaaGreatDoor.Tp Go.Proofs.YtmgglcfndhfceaaGreatDoor.Mg
set_option linter.unusedVariables false

theorem dvs_any (A k a n mt : Int) (ca : Option Addr) (cn ccap : Nat) (g : Nat → Int) (ha : Option Addr) (hn hcap : Nat) (hs : List Hol) (hc : cn ≤ 1000) (hn1 : hn ≤ 1024) (w : World) (cx : Cx ca cn g ha hn hs w) :
    Calls Tryz.prog 11 #[.int .i64 A, .agg #[.int .i64 k, .int .i64 a], .int .i64 n, .slice ca cn ccap, .int .i64 mt, .slice ha hn hcap] w (RetV (.bool true) w) := by
  rcases wts_class k a n mt ca cn ccap g ha hn hcap hs hc hn1 with ⟨c, hc0, H⟩ | ⟨f, fb, ⟨s0, s1⟩, H⟩
  · exact dvs_err A k a n mt ca cn ccap g ha hn hcap hs c H (bp_err hc0 H) (bd_err hc0 H) w cx
  · by_cases hA : A < -1000000000 ∨ 1000000000 < A
    · by_cases hz : sumTo f (cn + 1) = 0
      · exact dvs_zero A k a n mt ca cn ccap g ha hn hcap hs 5 2 f hc H (bp_zero hc fb hz H) (bd_range hc hA H) w cx
      · exact dvs_posE A k a n mt ca cn ccap g ha hn hcap hs 2 f _ _ hc H (bp_pos hc fb (by omega) s1 H) (bd_range hc hA H) w cx
    · by_cases hz : sumTo f (cn + 1) = 0
      · exact dvs_zero A k a n mt ca cn ccap g ha hn hcap hs 5 5 f hc H (bp_zero hc fb hz H) (bd_zero hc (by omega) (by omega) fb hz H) w cx
      · have : Inhabited (Fin (cn + 1)) := ⟨0⟩
        exact dvs_pos A k a n mt ca cn ccap g ha hn hcap hs f _ _ _ hc H (bp_pos hc fb (by omega) s1 H) (bd_pos hc (by omega) (by omega) fb (by omega) H) w cx
theorem five5 (w : World) (x y z q r : Int) (t : TypeId) : ∀ i, i < ([x, y, z, q, r] : List Int).length → (w.alloc (.cells #[.int .i64 x, .int .i64 y, .int .i64 z, .int .i64 q, .int .i64 r] t)).cell? ⟨w.heap.size, i, none⟩ = some (.int .i64 (([x, y, z, q, r] : List Int).getD i 0)) := by
  intro i hi
  rcases i with _ | _ | _ | _ | _ | i
  · go_simp
  · go_simp
  · go_simp
  · go_simp
  · go_simp
  · simp at hi; omega
theorem eight8 (w : World) (x y z q r u v p : Int) (t : TypeId) : ∀ i, i < ([x, y, z, q, r, u, v, p] : List Int).length → (w.alloc (.cells #[.int .i64 x, .int .i64 y, .int .i64 z, .int .i64 q, .int .i64 r, .int .i64 u, .int .i64 v, .int .i64 p] t)).cell? ⟨w.heap.size, i, none⟩ = some (.int .i64 (([x, y, z, q, r, u, v, p] : List Int).getD i 0)) := by
  intro i hi
  rcases i with _ | _ | _ | _ | _ | _ | _ | _ | i
  · go_simp
  · go_simp
  · go_simp
  · go_simp
  · go_simp
  · go_simp
  · go_simp
  · go_simp
  · simp at hi; omega
theorem cutK_old {w wr : World} {a : Option Addr} {n : Nat} {g : Nat → Int} (h : CutRow w w.heap.size a n g) (hb : Below w.heap.size w wr) : CutK wr w.heap.size a n g :=
  ⟨(h.below hb).more hb.size, fun hn y hy => by
    obtain ⟨x, hx, hx1, _⟩ := h hn
    rw [hx] at hy; injection hy with hy; subst hy; omega⟩
theorem holK_old {w wr : World} {a : Option Addr} {n : Nat} {hs : List Hol} (h : HolRow w w.heap.size a n hs) (hb : Below w.heap.size w wr) : HolK wr w.heap.size a n hs :=
  ⟨(h.below hb).more hb.size, fun hn y hy => by
    obtain ⟨x, hx, hx1, _⟩ := h.2 hn
    rw [hx] at hy; injection hy with hy; subst hy; omega⟩
theorem cut_of {w : World} {a : Option Addr} {n cap : Nat} {zs : List Int} (h : IsRow w a n cap zs) : CutRow w w.heap.size a n (fun i => zs.getD i 0) := by
  intro hn
  rcases h with ⟨_, h, _⟩ | ⟨x, rfl, h1, h2, h3, h4, h5⟩
  · omega
  · refine ⟨x, rfl, ?_, fun i hi => h4 i (by omega)⟩
    have := World.block_lt_of_cell? w _ (h4 0 (by omega))
    rwa [Tp.add_block] at this
/-- Any period's span, as numbers. -/
theorem span_num (k a n : Int) : ∃ F T c : Int, 0 ≤ F ∧ F ≤ 84005 ∧ 0 ≤ T ∧ T ≤ 84005 ∧ ∀ w, Calls Tryz.prog 8 #[.agg #[.int .i64 k, .int .i64 a], .int .i64 n] w (RetS F T c w) := by
  by_cases h : spP k a n
  · have b := span_bd k a n h.2.1 h.2.2
    exact ⟨_, _, _, b.1, by omega, by omega, b.2.2.1, rpspan_yes k a n h⟩
  · exact ⟨0, 0, 2, by omega, by omega, by omega, by omega, rpspan_no k a n h⟩
/-- What the calls of a round find. -/
structure DvK (w0 : World) (b cb rb : Nat) (k a F T : Int) (X : Option Addr) (xn : Nat) (xg : Nat → Int) (A : Option Addr) (nh : Nat) (hs : List Hol) (wr : World) : Prop where
  g : AG w0 b cb rb k a F T wr
  c : CutK wr b X xn xg
  h : HolK wr b A nh hs
theorem DvK.more {w0 wr w' : World} {b cb rb xn nh : Nat} {k a F T : Int} {X A : Option Addr} {xg : Nat → Int} {hs : List Hol} (h : DvK w0 b cb rb k a F T X xn xg A nh hs wr) (hb : Below wr.heap.size wr w') : DvK w0 b cb rb k a F T X xn xg A nh hs w' := ⟨h.g.more hb, h.c.more hb, h.h.more hb⟩
theorem DvK.alloc {w0 wr : World} {b cb rb xn nh : Nat} {k a F T : Int} {X A : Option Addr} {xg : Nat → Int} {hs : List Hol} (h : DvK w0 b cb rb k a F T X xn xg A nh hs wr) (o : Obj) : DvK w0 b cb rb k a F T X xn xg A nh hs (wr.alloc o) := ⟨h.g.alloc o, h.c.alloc o, h.h.alloc o⟩
theorem DvK.step {w0 wr w' : World} {b cb rb xn nh : Nat} {k a F T : Int} {X A : Option Addr} {xg : Nat → Int} {hs : List Hol} (h : DvK w0 b cb rb k a F T X xn xg A nh hs wr) (hT : TapeAt b w') (hO : Only b wr w') : DvK w0 b cb rb k a F T X xn xg A nh hs w' := ⟨h.g.step hT hO, h.c.step hO, h.h.step hO⟩
theorem cells_alloc {W : World} {s n : Nat} {f : Nat → Value} (h : ∀ i, i < n → W.cell? ⟨s, i, none⟩ = some (f i)) (o : Obj) : ∀ i, i < n → (W.alloc o).cell? ⟨s, i, none⟩ = some (f i) := fun i hi =>
  ((Below.alloc (Below.refl _ _) (Nat.le_refl _) o).cell (World.block_lt_of_cell? W _ (h i hi))).trans (h i hi)
theorem cells_only {W W' : World} {b s n : Nat} {f : Nat → Value} (h : ∀ i, i < n → W.cell? ⟨s, i, none⟩ = some (f i)) (hO : Only b W W') (hs : s ≠ b) : ∀ i, i < n → W'.cell? ⟨s, i, none⟩ = some (f i) := fun i hi => hO.cell (h i hi) hs
theorem DvK.drew {w0 wr : World} {b cb rb xn nh : Nat} {k a F T : Int} {X A : Option Addr} {xg : Nat → Int} {hs : List Hol} (h : DvK w0 b cb rb k a F T X xn xg A nh hs wr) : DvK w0 b cb rb k a F T X xn xg A nh hs wr.drew := h.more (Below.drew (Below.refl _ _))
theorem cells_drew {W : World} {s n : Nat} {f : Nat → Value} (h : ∀ i, i < n → W.cell? ⟨s, i, none⟩ = some (f i)) : ∀ i, i < n → W.drew.cell? ⟨s, i, none⟩ = some (f i) := h
theorem five_at (W : World) (s : Nat) (x y z q r : Int) (t : TypeId) (hs : s = W.heap.size) : ∀ i, i < 5 → (W.alloc (.cells #[.int .i64 x, .int .i64 y, .int .i64 z, .int .i64 q, .int .i64 r] t)).cell? ⟨s, i, none⟩ = some (.int .i64 (([x, y, z, q, r] : List Int).getD i 0)) := by
  subst hs; exact five5 W x y z q r t
theorem eight_at (W : World) (s : Nat) (x y z q r u v p : Int) (t : TypeId) (hs : s = W.heap.size) : ∀ i, i < 8 → (W.alloc (.cells #[.int .i64 x, .int .i64 y, .int .i64 z, .int .i64 q, .int .i64 r, .int .i64 u, .int .i64 v, .int .i64 p] t)).cell? ⟨s, i, none⟩ = some (.int .i64 (([x, y, z, q, r, u, v, p] : List Int).getD i 0)) := by
  subst hs; exact eight8 W x y z q r u v p t
/-- A choice, and what is kept. -/
def PkQ (Q : World → Prop) (b : Nat) (W : World) (e : Ending) (w' : World) : Prop := ∃ v : Int, e = .returned (.int .i64 v) ∧ Q w' ∧ Only b W w'
def DvQ (Q : World → Prop) (e : Ending) (w' : World) : Prop := e = .returned (.bool true) ∧ Q w'
/-- What a round of PeriodDivides carries: the tape, what the caller gave. -/
structure DvI (w0 : World) (b : Nat) (wr : World) : Prop where
  tape : TapeAt b wr
  below : Below w0.heap.size w0 wr
  hb : w0.heap.size ≤ b
theorem dvi_of {w0 wr : World} {cb rb xn nh : Nat} {k a F T : Int} {X A : Option Addr} {xg : Nat → Int} {hs : List Hol} (h : DvK w0 w0.heap.size cb rb k a F T X xn xg A nh hs wr) : DvI w0 w0.heap.size wr := ⟨h.g.g.tape, h.g.g.below, Nat.le_refl _⟩

set_option maxRecDepth 100000 in
set_option maxHeartbeats 16000000 in
theorem divs_walk (t0 : Option Addr) (len cap : Nat) (zs : List Int) (amount : Int) (n0 : -9223372036854775808 ≤ amount) (n1 : amount ≤ 9223372036854775807) (a2 : Option Addr) (len2 cap2 : Nat) (z2 : List Int) (a3 : Option Addr) (len3 cap3 : Nat) (z3 : List Hol) (w : World) (hr : IsRow w t0 len cap zs) (hlen : len ≤ 9223372036854775807) (hr2 : IsRow w a2 len2 cap2 z2) (hlen2 : len2 ≤ 9223372036854775807) (hr3 : HolRow w w.heap.size a3 len3 z3) (hlen3 : len3 ≤ 9223372036854775807) (hl : LgIs w) :
    Calls Tryz.prog 3 #[.slice t0 len cap, .int .i64 amount, .slice a2 len2 cap2, .slice a3 len3 cap3] w (RetV (.bool true) w) := by
  have HL := Lib.hid hl
  have H3 := Lib.hid hr3
  have H2 := Lib.hid (show CutRow w w.heap.size a2 len2 (fun i => z2.getD i 0) from cut_of hr2)
  have T0 := tape_new hr hlen 44
  have HI0 := Lib.hid (show DvI w w.heap.size (w.alloc (.cells #[.slice t0 len cap, .int .i64 0] 44)) from ⟨T0, (Below.refl _ _).alloc (Nat.le_refl _) _, Nat.le_refl _⟩)
  clear hr T0 hl hlen n0 n1 hr2 hr3
  go_enter Tryz.func3, Tryz.ntmps3
  go_wp2_with fail
  refine (gnew_any t0 len cap _).mono ?_
  rintro e w1 ⟨rfl, rfl⟩
  go_wp2_with fail
  go_loopw [10] (fun z wr => ∃ i : Nat, i ≤ 3 ∧ z = .int .i64 i ∧ Hid (DvI w w.heap.size wr)) (fun z _ => 3 - (intOf z).toNat)
  case atStart => exact ⟨0, by omega, rfl, HI0⟩
  case round =>
    clear HI0
    obtain ⟨i, hi, rfl, HI⟩ := hrel
    by_cases hlt : i < 3
    · go_wp2_with fail
      refine (tcal_any w.heap.size true _ HI.out.tape).mono ?_
      rintro e w1 ⟨k, a, rfl, okk, k0, k1, a0, a1, T1, O1⟩
      have okk' := trivial
      have hB1 := HI.out.below.trans (O1.below HI.out.hb HI.out.below.size)
      have G1 : SG w w.heap.size w1.heap.size k a (w1.alloc (.cells #[.int .i64 k, .int .i64 a] 27)) :=
        ⟨T1.alloc _, Box2.new w1 _ k a, hB1.alloc hB1.size _, Nat.le_refl _, by have := T1.lt; omega⟩
      clear T1 O1 hB1 okk okk' HI
      have GD := G1.more (Below.drew (Below.refl _ _))
      go_wp2_with fail
      go_region_held3 (fun w' => w'.cell? ⟨w1.heap.size, 0, none⟩ = some (.int .i64 k) ∧ w'.cell? ⟨w1.heap.size, 1, none⟩ = some (.int .i64 a))
        (first | exact ⟨GB.cbox.c0, GB.cbox.c1⟩ | exact ⟨GA.cbox.c0, GA.cbox.c1⟩ | exact ⟨GD.cbox.c0, GD.cbox.c1⟩)
        (first
          | (go_at_call 7; refine (tday_any w.heap.size _ GD.tape).mono ?_; rintro e w2 ⟨d, rfl, d0, d1, T2, O2⟩; have GA := GD.step T2 O2; clear T2 O2)
          | (go_at_call 6; refine (rpof_any k a d _).mono ?_; rintro e w3 ⟨rfl, hw3⟩; have GB := GA.more hw3; clear hw3))
      have HG := Lib.hid GB
      clear G1 GD GA GB
      obtain ⟨F, T, c, F0, F1, T0, T1, CS⟩ := span_num k a (ofV k a d)
      have CSP := Lib.hid CS
      clear CS
      generalize ofV k a d = n at *
      have z0 := HG.out.cbox.c0
      have z1 := HG.out.cbox.c1
      go_wp2_with fail
      refine (CSP.out _).mono ?_
      rintro e w4 ⟨rfl, hw4⟩
      have A4 := AG.new (HG.out.more hw4) F T
      clear hw4 HG CSP z0 z1
      have z0 := A4.r.c0
      have z1 := A4.r.c1
      go_wp2_with fail
      refine (cuts_any w.heap.size F T (by omega) (by omega) (by omega) (by omega) _ A4.g.tape).mono ?_
      rintro e w5 ⟨X, xn, xcap, xg, rfl, x5, hX, hXb, T5, O5⟩
      have A5 := A4.step T5 O5
      have K5 : CutK w5 w.heap.size X xn xg := ⟨hX, fun _ y hy => by have := hXb y hy; have := A4.g.tape.lt; omega⟩
      clear T5 O5 A4 hX hXb z0 z1
      go_wp2_with fail
      refine (thol_any w.heap.size true _ A5.g.tape).mono ?_
      rintro e w8 ⟨A, nh, hcap, hs, rfl, nh4, HRr, HNE, hvv, T8, O8⟩
      have A8 := Lib.hid (A5.step T8 O8)
      have K8 := Lib.hid (K5.step O8)
      have L8 := Lib.hid (show HolK w8 w.heap.size A nh hs from ⟨HRr, fun _ y hy => by have := HNE y hy; omega⟩)
      clear HRr HNE hvv T8 O8 A5 K5
      go_upto_region 9 with fail
      go_cut [55] (fun s wx => ∃ B : Bool, s = .bool B ∧ wx = w8 ∧ Hid (B = true → len2 ≤ 40 ∧ len3 ≤ 6))
      case first =>
        by_cases e2 : i = 2
        · subst e2
          by_cases e3 : len2 ≤ 40
          · by_cases e4 : len3 ≤ 6
            · have t3 : decide ((len2 : Int) ≤ 40) = true := decide_eq_true (by omega)
              have t4 : decide ((len3 : Int) ≤ 6) = true := decide_eq_true (by omega)
              go_wp2_with fail
              go_meet
              exact ⟨true, rfl, rfl, Lib.hid fun _ => ⟨e3, e4⟩⟩
            · have t3 : decide ((len2 : Int) ≤ 40) = true := decide_eq_true (by omega)
              have t4 : decide ((len3 : Int) ≤ 6) = false := decide_eq_false (by omega)
              go_wp2_with fail
              go_meet
              exact ⟨false, rfl, rfl, Lib.hid fun h => by cases h⟩
          · have t3 : decide ((len2 : Int) ≤ 40) = false := decide_eq_false (by omega)
            go_wp2_with fail
            go_meet
            exact ⟨false, rfl, rfl, Lib.hid fun h => by cases h⟩
        · have t2 : ((i : Int) == 2) = false := by simp; omega
          go_wp2_with fail
          go_meet
          exact ⟨false, rfl, rfl, Lib.hid fun h => by cases h⟩
      case rest =>
      obtain ⟨B, rfl, rfl, HB⟩ := hcut
      go_upto_if 55 with fail
      go_cut [16, 17] (fun s t wx => ∃ (X : Option Addr) (xn xcap : Nat) (xg : Nat → Int) (A : Option Addr) (nh hcap : Nat) (hs : List Hol), s = .slice X xn xcap ∧ t = .slice A nh hcap ∧ xn ≤ 1000 ∧ nh ≤ 1024 ∧ Hid (AG w w.heap.size w1.heap.size w4.heap.size k a F T wx) ∧ Hid (CutK wx w.heap.size X xn xg) ∧ Hid (HolK wx w.heap.size A nh hs))
      case first =>
        rcases B with _ | _
        · go_wp2_with fail
          go_meet
          exact ⟨X, xn, xcap, xg, A, nh, hcap, hs, rfl, rfl, by omega, by omega, A8, K8, L8⟩
        · obtain ⟨e3, e4⟩ := HB.out rfl
          go_wp2_with fail
          go_meet
          exact ⟨a2, len2, cap2, _, a3, len3, cap3, z3, rfl, rfl, by omega, by omega, A8, Lib.hid (cutK_old H2.out A8.out.g.below), Lib.hid (holK_old H3.out A8.out.g.below)⟩
      case rest =>
        clear A8 K8 L8 x5 nh4
        obtain ⟨X, xn, xcap, xg, A, nh, hcap, hs, rfl, rfl, x5, nh4, A8, K8, L8⟩ := hcut
        have KK : DvK w w.heap.size w1.heap.size w4.heap.size k a F T X xn xg A nh hs wc := ⟨A8.out, K8.out, L8.out⟩
        clear A8 K8 L8
        have lt0 : w.heap.size < wc.heap.size := KK.g.g.tape.lt
        obtain ⟨Q, HQ⟩ : ∃ Q : World → Prop, Hid (Q = fun W => DvK w w.heap.size w1.heap.size w4.heap.size k a F T X xn xg A nh hs W) := ⟨_, rfl⟩
        have K0 : Q wc := by rw [HQ.out]; exact KK
        have QA : Hid (∀ W o, Q W → Q (W.alloc o)) := Lib.hid (by rw [HQ.out]; exact fun W o h => h.alloc o)
        have QD : Hid (∀ W, Q W → Q W.drew) := Lib.hid (by rw [HQ.out]; exact fun W h => h.drew)
        have QL : Hid (∀ W, Q W → W.cell? ⟨w1.heap.size, 0, none⟩ = some (.int .i64 k) ∧ W.cell? ⟨w1.heap.size, 1, none⟩ = some (.int .i64 a)) := Lib.hid (by rw [HQ.out]; exact fun W h => ⟨h.g.g.cbox.c0, h.g.g.cbox.c1⟩)
        have QE : Hid (∀ W, Q W → Hid (DvI w w.heap.size W)) := Lib.hid (by rw [HQ.out]; exact fun W h => Lib.hid (dvi_of h))
        have QT : Hid (∀ W, Q W → w.heap.size < W.heap.size) := Lib.hid (by rw [HQ.out]; exact fun W h => h.g.g.tape.lt)
        have P5 : Hid (∀ (W : World) (sl : Nat), Q W → (∀ i, i < 5 → W.cell? ⟨sl, i, none⟩ = some (.int .i64 (([100, 31, -7, amount, 0] : List Int).getD i 0))) → sl ≠ w.heap.size → Calls Tryz.prog 12 #[.pointer (some ⟨w.heap.size, 0, none⟩), .slice (some ⟨sl, 0, none⟩) 5 5] W (PkQ Q w.heap.size W)) :=
          Lib.hid (by rw [HQ.out]; exact fun W sl hK hc hsl => (pick_any w.heap.size sl [100, 31, -7, amount, 0] (by simp) (by simp) hsl W hK.g.g.tape hc).mono fun e w' ⟨v, he, _, T2, O2⟩ => ⟨v, he, hK.step T2 O2, O2⟩)
        have P8 : Hid (∀ (W : World) (sl : Nat), Q W → (∀ i, i < 8 → W.cell? ⟨sl, i, none⟩ = some (.int .i64 (([0, 1, 2, 0, 1, 2, 3, -1] : List Int).getD i 0))) → sl ≠ w.heap.size → Calls Tryz.prog 12 #[.pointer (some ⟨w.heap.size, 0, none⟩), .slice (some ⟨sl, 0, none⟩) 8 8] W (PkQ Q w.heap.size W)) :=
          Lib.hid (by rw [HQ.out]; exact fun W sl hK hc hsl => (pick_any w.heap.size sl [0, 1, 2, 0, 1, 2, 3, -1] (by simp) (by simp) hsl W hK.g.g.tape hc).mono fun e w' ⟨v, he, _, T2, O2⟩ => ⟨v, he, hK.step T2 O2, O2⟩)
        have PD : Hid (∀ (u v : Int) (W : World), Q W → Calls Tryz.prog 11 #[.int .i64 u, .agg #[.int .i64 k, .int .i64 a], .int .i64 n, .slice X xn xcap, .int .i64 v, .slice A nh hcap] W (DvQ Q)) :=
          Lib.hid (by rw [HQ.out]; exact fun u v W hK => (dvs_any u k a n v X xn xcap xg A nh hcap hs x5 nh4 W ⟨hK.c.1, hK.h.1, HL.out.below hK.g.g.below⟩).mono fun e w' ⟨he, hw⟩ => ⟨he, hK.more hw⟩)
        clear HQ KK HL H2 H3 HB x5 nh4
        have QLD : Hid (∀ W o, Q W → (W.alloc o).drew.cell? ⟨w1.heap.size, 0, none⟩ = some (.int .i64 k) ∧ (W.alloc o).drew.cell? ⟨w1.heap.size, 1, none⟩ = some (.int .i64 a)) := Lib.hid (fun W o h => QL.out _ (QD.out _ (QA.out _ o h)))
        go_wp2_with fail
        go_region_held3 (fun w' => w'.cell? ⟨w1.heap.size, 0, none⟩ = some (.int .i64 k) ∧ w'.cell? ⟨w1.heap.size, 1, none⟩ = some (.int .i64 a))
          (first | (with_reducible exact QL.out _ (by (repeat (first | (with_reducible assumption) | (with_reducible refine QA.out _ _ ?_) | (with_reducible refine QD.out _ ?_))))))
          (first
            | (go_at_call 12; (with_reducible refine (P5.out _ _ (by (repeat (first | (with_reducible assumption) | (with_reducible refine QA.out _ _ ?_) | (with_reducible refine QD.out _ ?_)))) (by (repeat (first | ((with_reducible refine five_at _ _ _ _ _ _ _ _ ?_); simp; done) | (with_reducible refine cells_alloc ?_ _) | (with_reducible refine cells_drew ?_)))) (by first | omega | (have := QT.out _ K2; omega) | (simp; omega) | (have := QT.out _ K2; simp; omega))).mono ?_); rintro e w2 ⟨v1, rfl, K2, O2⟩)
            | (go_at_call 12; (with_reducible refine (P8.out _ _ (by (repeat (first | (with_reducible assumption) | (with_reducible refine QA.out _ _ ?_) | (with_reducible refine QD.out _ ?_)))) (by (repeat (first | ((with_reducible refine eight_at _ _ _ _ _ _ _ _ _ _ _ ?_); simp; done) | (with_reducible refine cells_alloc ?_ _) | (with_reducible refine cells_drew ?_) | (with_reducible refine cells_only ?_ O2 (by first | (simp; omega) | (simp; done)))))) (by first | omega | (have := QT.out _ K2; omega) | (simp; omega) | (have := QT.out _ K2; simp; omega))).mono ?_); rintro e w3 ⟨v2, rfl, K3, O3⟩)
            | (go_at_call 11; (with_reducible refine (PD.out _ _ _ (by (repeat (first | (with_reducible assumption) | (with_reducible refine QA.out _ _ ?_) | (with_reducible refine QD.out _ ?_))))).mono ?_); rintro e w5 ⟨rfl, K4⟩))
        all_goals
          clear P5 P8 PD QLD QL QA QD QT
          go_wp2_with fail
          go_roundw
          case rel => exact ⟨i + 1, by omega, by go_num, QE.out _ K4⟩
          case measure => simp [intOf]; omega
    · obtain rfl : i = 3 := by omega
      go_wp2_with fail
      refine (psane_any _ (HL.out.below HI.out.below)).mono ?_
      rintro e w9 ⟨rfl, hw9⟩
      go_wp2_with fail
      go_ret
      exact ⟨rfl, HI.out.below.trans (hw9.mono HI.out.below.size)⟩
end Go.Proofs.YtmgglcfndhfceaaGreatDoor.Per
