/-
  The reference's Allocate at up to 1024 weights within their limits: the greatest remainder first is the program's order. Conditions: the weights lie in memory, are within their limits, and their sum is positive; the total is within its limits.
-/
import Derived.Test.YtmgglcfndhfceaaGreatDoorPrYf
import Derived.BigRegion
import Derived.Deep.CutRange
import Derived.Deep.DeepCutAuto
namespace Go.Proofs.YtmgglcfndhfceaaGreatDoor
open Go Go.RowKit Go.Lib Go.Sort Go.Shelf Go.Proofs Go.Proofs.YtmgglcfndhfceaaGreatDoor.Mg
set_option linter.unusedVariables false

theorem times_none (o : Nat → Nat) (i : Nat) : ∀ t, (∀ u, u < t → o u ≠ i) → timesF o i t = 0
  | 0, _ => rfl
  | t + 1, h => by simp only [timesF]; rw [times_none o i t (fun u hu => h u (by omega)), if_neg (h t (by omega))]; rfl
theorem times_some (o : Nat → Nat) (i : Nat) : ∀ t u, u < t → o u = i → 0 < timesF o i t
  | t + 1, u, hu, e => by
    simp only [timesF]
    have := (times_bd o i t).1
    rcases Nat.lt_or_ge u t with h | h
    · have := times_some o i t u h e
      split <;> omega
    · obtain rfl : u = t := by omega
      rw [if_pos e]; omega
section
variable {n : Nat} [Inhabited (Fin n)] {T s : Int} {g : Nat → Int}
/-- What is left of the remainders behind t rounds. -/
def restF (T s : Int) (g : Nat → Int) (n : Nat) [Inhabited (Fin n)] (t i : Nat) : Int := if timesF (ordAt T s g n) i t = 0 then T * g i % s else -1
theorem rest_step (t i : Nat) : restF T s g n (t + 1) i = if i = ordAt T s g n t then -1 else restF T s g n t i := by
  have hb := (times_bd (ordAt T s g n) i t).1
  have e : timesF (ordAt T s g n) i (t + 1) = timesF (ordAt T s g n) i t + (if ordAt T s g n t = i then 1 else 0) := rfl
  unfold restF
  by_cases h : ordAt T s g n t = i
  · rw [if_pos h] at e
    rw [if_pos h.symm, if_neg (by omega)]
  · rw [if_neg h] at e
    rw [if_neg (show ¬ i = ordAt T s g n t from fun c => h c.symm)]
    by_cases hz : timesF (ordAt T s g n) i t = 0
    · rw [if_pos hz, if_pos (by omega)]
    · rw [if_neg hz, if_neg (by omega)]
theorem rest_bd (hs : 1 ≤ s) (hT : 0 ≤ T) (t i : Nat) (h0 : 0 ≤ g i) : -1 ≤ restF T s g n t i ∧ restF T s g n t i ≤ s := by
  unfold restF
  have h1 := Int.emod_nonneg (T * g i) (by omega : s ≠ 0)
  have h2 := Int.emod_lt_of_pos (T * g i) (by omega : 0 < s)
  split <;> omega
theorem ord_pre {u t : Nat} (h : u < t) (ht : t < n) : T * g (ordAt T s g n t) % s < T * g (ordAt T s g n u) % s ∨ (T * g (ordAt T s g n u) % s = T * g (ordAt T s g n t) % s ∧ ordAt T s g n u < ordAt T s g n t) := ord_srt T s g u t (Nat.zero_le _) h ht
/-- The first greatest remainder that is left is the next one in the order. -/
theorem best_is (hs : 1 ≤ s) {t b : Nat} (ht : t < n) (hb : b < n) (hm : ∀ u, u < n → restF T s g n t u < restF T s g n t b ∨ (restF T s g n t u = restF T s g n t b ∧ b ≤ u)) : b = ordAt T s g n t := by
  have hx := ordAt_lt (n := n) T s g t
  have hne : ∀ u, u < t → ordAt T s g n u ≠ ordAt T s g n t := fun u hu e => by
    have := ord_pre (T := T) (s := s) (g := g) hu ht
    rw [e] at this; omega
  have e1 : restF T s g n t (ordAt T s g n t) = T * g (ordAt T s g n t) % s := by unfold restF; rw [if_pos (times_none _ _ _ hne)]
  have h1 := Int.emod_nonneg (T * g (ordAt T s g n t)) (by omega : s ≠ 0)
  have h2 := hm _ hx
  rw [e1] at h2
  have hb0 : timesF (ordAt T s g n) b t = 0 := by
    by_cases h : timesF (ordAt T s g n) b t = 0
    · exact h
    · exfalso
      have : restF T s g n t b = -1 := by unfold restF; rw [if_neg h]
      omega
  have e2 : restF T s g n t b = T * g b % s := by unfold restF; rw [if_pos hb0]
  rw [e2] at h2
  obtain ⟨u, hu, eu⟩ := ord_hit T s g (⟨b, hb⟩ : Fin n)
  have eb : ordAt T s g n u = b := congrArg Fin.val eu
  rcases Nat.lt_trichotomy u t with c | c | c
  · have := times_some (ordAt T s g n) b t u c eb
    omega
  · rw [← c, eb]
  · have := ord_pre (T := T) (s := s) (g := g) c hu
    rw [eb] at this
    omega
end

/-- What the reference's Allocate leaves. -/
def RaR (n : Nat) (f : Nat → Int) (w : World) (e : Ending) (w' : World) : Prop := ∃ p, e = .returned (.tuple #[.slice (some ⟨p, 0, none⟩) n n, .int .i64 0]) ∧ w.heap.size ≤ p ∧ p < w'.heap.size ∧ RowI w' p n f ∧ Below w.heap.size w w'
/-- The two rows of the reference. -/
structure RaI (w : World) (x : Addr) (n p q : Nat) (g fp fq : Nat → Int) (wr : World) : Prop where
  wts : WRow wr x n g
  parts : RowI wr p n fp
  rest : RowI wr q n fq
  below : Below w.heap.size w wr
  ne : p ≠ q
  p0 : w.heap.size ≤ p
  q0 : w.heap.size ≤ q
  p1 : p < wr.heap.size
  q1 : q < wr.heap.size
  x0 : x.block < w.heap.size
section
variable {w wr : World} {x : Addr} {n p q : Nat} {g fp fq : Nat → Int}
theorem RaI.setP (h : RaI w x n p q g fp fq wr) {k : Nat} (hk : k < n) (v : Int) : RaI w x n p q g (fun i => if i = k then v else fp i) fq (wr.setCell ⟨p, k, none⟩ (.int .i64 v)) :=
  ⟨h.wts.keep (Below.heap_setCell _ _ _ _ (by have := h.x0; have := h.p0; show x.block ≠ p; omega)), h.parts.set hk v, h.rest.far (by show p ≠ q; exact h.ne) _, h.below.setCell (by exact h.p0) _, h.ne, h.p0, h.q0, by simpa [World.setCell] using h.p1, by simpa [World.setCell] using h.q1, h.x0⟩
theorem RaI.setQ (h : RaI w x n p q g fp fq wr) {k : Nat} (hk : k < n) (v : Int) : RaI w x n p q g fp (fun i => if i = k then v else fq i) (wr.setCell ⟨q, k, none⟩ (.int .i64 v)) :=
  ⟨h.wts.keep (Below.heap_setCell _ _ _ _ (by have := h.x0; have := h.q0; show x.block ≠ q; omega)), h.parts.far (by show q ≠ p; exact fun e => h.ne e.symm) _, h.rest.set hk v, h.below.setCell (by exact h.q0) _, h.ne, h.p0, h.q0, by simpa [World.setCell] using h.p1, by simpa [World.setCell] using h.q1, h.x0⟩
theorem RaI.drew (h : RaI w x n p q g fp fq wr) : RaI w x n p q g fp fq wr.drew :=
  ⟨h.wts.keep rfl, h.parts.drewN 1, h.rest.drewN 1, Below.drew h.below, h.ne, h.p0, h.q0, h.p1, h.q1, h.x0⟩
theorem RaI.drewN (h : RaI w x n p q g fp fq wr) (k : Nat) : RaI w x n p q g fp fq (wr.drewN k) :=
  ⟨h.wts.keep rfl, h.parts.drewN k, h.rest.drewN k, below_drewN h.below k, h.ne, h.p0, h.q0, h.p1, h.q1, h.x0⟩
theorem RaI.congr (h : RaI w x n p q g fp fq wr) {fp' fq' : Nat → Int} (e : ∀ i, i < n → fp i = fp' i) (e2 : ∀ i, i < n → fq i = fq' i) : RaI w x n p q g fp' fq' wr :=
  ⟨h.wts, h.parts.congr e, h.rest.congr e2, h.below, h.ne, h.p0, h.q0, h.p1, h.q1, h.x0⟩
end

theorem rai_new {w : World} {x : Addr} {n : Nat} {g : Nat → Int} {t : TypeId} (hx : x.block < w.heap.size) (hr : WRow w x n g) :
    RaI w x n w.heap.size (w.heap.size + 1) g (fun _ => 0) (fun _ => 0) (((w.alloc (.cells (zerosN n) t)).alloc (.cells (zerosN n) t)).drew) ∧ RaI w x n (w.heap.size + 1) w.heap.size g (fun _ => 0) (fun _ => 0) (((w.alloc (.cells (zerosN n) t)).alloc (.cells (zerosN n) t)).drew) := by
  have B : Below w.heap.size w ((w.alloc (.cells (zerosN n) t)).alloc (.cells (zerosN n) t)) := ((Below.refl _ _).alloc (Nat.le_refl _) _).alloc (by simp) _
  have r1 := (RowI.new w n t).alloc (by simp) (.cells (zerosN n) t)
  have r2 := RowI.new (w.alloc (.cells (zerosN n) t)) n t
  have e : (w.alloc (.cells (zerosN n) t)).heap.size = w.heap.size + 1 := by simp
  rw [e] at r2
  have W := hr.below B hx
  exact ⟨(RaI.mk W r1 r2 B (by omega) (Nat.le_refl _) (by omega) (by simp; omega) (by simp) hx).drew, (RaI.mk W r2 r1 B (by omega) (by omega) (Nat.le_refl _) (by simp) (by simp; omega) hx).drew⟩

set_option maxRecDepth 100000 in
set_option maxHeartbeats 8000000 in
theorem ralloc_pos (n : Nat) [Inhabited (Fin n)] (T s : Int) (x : Addr) (cap : Nat) (g : Nat → Int) (hn : n ≤ 1024) (h0 : -1000000000 ≤ T) (h1 : T ≤ 1000000000) (g0 : ∀ k, k < n → 0 ≤ g k) (g1 : ∀ k, k < n → g k ≤ 1000000000) (hS : sumTo g n = s) (hs : 1 ≤ s) (w : World) (hx : x.block < w.heap.size) (hrow : WRow w x n g) :
    Calls Tryz.prog 45 #[.int .i64 T, .slice (some x) n cap] w (RaR n (alloF T s g n) w) := by
  have hn1 : 1 ≤ n := by
    rcases Nat.eq_zero_or_pos n with h | h
    · subst h; simp [sumTo] at hS; omega
    · exact h
  have hs1 : s ≤ 1000000000000000000 := by
    have := sumTo_bd (g := g) (n := n) (M := 1000000000) g1
    omega
  have hmk := make_run n (by omega)
  have HR := Lib.hid hrow
  have H0 := Lib.hid g0
  have H1 := Lib.hid g1
  have HS := Lib.hid hS
  have HX := Lib.hid hx
  have hn2 : decide (1024 < (n : Int)) = false := decide_eq_false (by omega)
  have hT1 : decide (T < -1000000000) = false := decide_eq_false (by omega)
  have hT2 : decide (1000000000 < T) = false := decide_eq_false (by omega)
  clear hrow g0 g1 hS hx
  go_enter Tryz.func45, Tryz.ntmps45
  go_wp2_with fail
  go_loop [6, 7] (fun sv i => ∃ k : Nat, k ≤ n ∧ i = .int .i64 k ∧ sv = .int .i64 (sumTo g k)) (fun _ i => n - (RowKit.intOf i).toNat)
  case atStart => exact ⟨0, by omega, rfl, rfl⟩
  case round =>
    obtain ⟨k, hk, rfl, rfl⟩ := hrel
    by_cases hlt : k < n
    · have c1 := HR.out k hlt
      have c2 := H0.out k hlt
      have c3 := H1.out k hlt
      have d2 : decide (g k < 0) = false := decide_eq_false (by omega)
      have d3 : decide (1000000000 < g k) = false := decide_eq_false (by omega)
      have c5 := sumTo_nonneg (g := g) (n := k) fun i hi => H0.out i (by omega)
      have c6 := sumTo_bd (g := g) (n := k) (M := 1000000000) fun i hi => H1.out i (by omega)
      have HQ := Lib.hid (show sumTo g (k + 1) = sumTo g k + g k from rfl)
      go_wp2_with fail
      go_round
      case rel => exact ⟨k + 1, hlt, by go_num, by rw [HQ.out]⟩
      case measure => (first | omega | (simp [RowKit.intOf]; omega))
    · obtain rfl : k = n := by omega
      have hs0 : (s == 0) = false := by simp; omega
      rw [HS.out]
      go_upto_if 53 with fail
      go_cut [8] from 53 to 55 (fun v wx => ∃ U : Int, v = .int .i64 U ∧ 0 ≤ U ∧ U ≤ 1000000000 ∧ Hid ((T < 0 → U = -T) ∧ (0 ≤ T → U = T)) ∧ w = wx)
      case first =>
        by_cases hT : T < 0
        · have hT3 : decide (T < 0) = true := decide_eq_true hT
          go_wp2_with fail
          go_meet
          exact ⟨-T, rfl, by omega, by omega, Lib.hid ⟨fun _ => rfl, fun h => by omega⟩, rfl⟩
        · have hT3 : decide (T < 0) = false := decide_eq_false hT
          go_wp2_with fail
          go_meet
          exact ⟨T, rfl, by omega, by omega, Lib.hid ⟨fun h => by omega, fun _ => rfl⟩, rfl⟩
      case rest =>
        obtain ⟨U, rfl, U0, U1, HU, rfl⟩ := hcut
        go_upto_region 17 with fail
        go_cut [9, 10] from 56 to 61 (fun v1 v2 wx => ∃ p q : Nat, v1 = .slice (some ⟨p, 0, none⟩) k k ∧ v2 = .slice (some ⟨q, 0, none⟩) k k ∧ Hid (RaI w x k p q g (fun _ => 0) (fun _ => 0) wx))
        case first =>
          go_region_with (fail)
          all_goals
            go_wp2_with fail
          · go_meet
            exact ⟨_, _, rfl, rfl, Lib.hid (rai_new HX.out HR.out).1⟩
          · go_meet
            exact ⟨_, _, rfl, rfl, Lib.hid (rai_new HX.out HR.out).2⟩
        case rest =>
          clear hmk HR HX hk hlt
          obtain ⟨p, q, rfl, rfl, HI⟩ := hcut
          go_wp2_with fail
          go_loopw [11, 12] (fun mi i wr => ∃ j : Nat, j ≤ k ∧ i = .int .i64 j ∧ mi = .int .i64 (U - sumTo (baseF U s g) j) ∧ Hid (RaI w x k p q g (fun i => if i < j then baseF U s g i else 0) (fun i => if i < j then U * g i % s else 0) wr)) (fun _ i _ => k - (RowKit.intOf i).toNat)
          case atStart => exact ⟨0, by omega, rfl, by simp [sumTo], Lib.hid (HI.out.congr (fun i _ => by simp) (fun i _ => by simp))⟩
          case round =>
            clear HI
            obtain ⟨j, hj, rfl, rfl, HI⟩ := hrel
            by_cases hlt : j < k
            · have d1 := HI.out.wts j hlt
              have d2 := HI.out.parts.cell j hlt
              have f2 := HI.out.parts.free j hlt
              have d3 := HI.out.rest.cell j hlt
              have f3 := HI.out.rest.free j hlt
              have n1 := HI.out.ne
              have v1 := HI.out.p1
              have v2 := HI.out.q1
              obtain ⟨p1, p2⟩ := part_sum_bd (T := U) (k := j) U0 hs H0.out HS.out hj
              obtain ⟨p3, p4⟩ := part_sum_bd (T := U) (k := j + 1) U0 hs H0.out HS.out hlt
              obtain ⟨m0, m1⟩ := mul_small U0 U1 (H0.out j hlt) (H1.out j hlt)
              have q0 := (base_bd U0 hs (H0.out j hlt)).1
              have q2 : U * g j / s ≤ 1000000000 := by have hq : sumTo (baseF U s g) (j + 1) = sumTo (baseF U s g) j + U * g j / s := rfl; omega
              have q3 : 0 ≤ U * g j / s := q0
              have HQ := Lib.hid (show sumTo (baseF U s g) (j + 1) = sumTo (baseF U s g) j + U * g j / s from rfl)
              clear q0
              go_wp2_with fail
              have c5 : (wr.setCell ⟨p, j, none⟩ (.int .i64 (U * g j / s))).cell? ⟨q, j, none⟩ = some (.int .i64 (if j < j then U * g j % s else 0)) := (World.cell?_setCell_other _ _ _ _ (by intro e; simp only [Addr.mk.injEq] at e; exact n1 e.1)).trans d3
              have HI2 := Lib.hid ((HI.out.setP hlt (U * g j / s)).setQ hlt (U * g j % s)).drew
              have zq : (wr.setCell ⟨p, j, none⟩ (.int .i64 (U * g j / s))).heap.size = wr.heap.size := by simp [World.setCell]
              clear HI zq
              go_big_region
              clear d2 f2 d3 f3 c5
              generalize ((wr.setCell ⟨p, j, none⟩ (.int .i64 (U * g j / s))).setCell ⟨q, j, none⟩ (.int .i64 (U * g j % s))).drew = w2 at HI2 ⊢
              have e1 := HI2.out.parts.cell j hlt
              rw [if_pos rfl] at e1
              go_wp2_with fail
              go_roundw
              case rel => exact ⟨j + 1, hlt, by go_num, by rw [HQ.out]; go_num, Lib.hid (HI2.out.congr (fun i hi => by
                by_cases e : i = j
                · rw [if_pos e, if_pos (by omega), e]; rfl
                · rw [if_neg e]
                  by_cases e2 : i < j
                  · rw [if_pos e2, if_pos (by omega)]
                  · rw [if_neg e2, if_neg (by omega)]) (fun i hi => by
                by_cases e : i = j
                · rw [if_pos e, if_pos (by omega), e]
                · rw [if_neg e]
                  by_cases e2 : i < j
                  · rw [if_pos e2, if_pos (by omega)]
                  · rw [if_neg e2, if_neg (by omega)]))⟩
              case measure => simp [RowKit.intOf]; omega
            · obtain rfl : j = k := by omega
              obtain ⟨e1, e2⟩ := missK_eq (T := U) (g := g) U0 hs H0.out HS.out
              rw [e1]
              clear e1
              have HJ : Hid (RaI w x j p q g (partF U s g j 0) (restF U s g j 0) wr) := Lib.hid (HI.out.congr (fun i hi => by rw [if_pos hi]; simp [partF, timesF]) (fun i hi => by rw [if_pos hi]; simp [restF, timesF]))
              clear HI
              have HK := Lib.hid (Eq.refl (missK U s g j))
              generalize hM : missK U s g j = M at e2 HK ⊢
              have HMM := Lib.hid hM
              clear hM HK hlt hj
              go_wp2_with fail
              go_loopw [11] (fun mi wr => ∃ t : Nat, t ≤ M ∧ mi = .int .i64 ((M - t : Nat) : Int) ∧ Hid (RaI w x j p q g (partF U s g j t) (restF U s g j t) wr)) (fun mi _ => (RowKit.intOf mi).toNat)
              case atStart => exact ⟨0, by omega, rfl, HJ⟩
              case round =>
                clear HJ
                obtain ⟨t, ht, rfl, HI⟩ := hrel
                by_cases hlt : t < M
                · have hlt3 : decide ((0 : Int) < ((M - t : Nat) : Int)) = true := decide_eq_true (by omega)
                  have hlt4 : decide (0 < M - t) = true := decide_eq_true (by omega)
                  go_wp2_with fail
                  go_loopw [13, 14] (fun bi i wr => ∃ b u : Nat, bi = .int .i64 b ∧ i = .int .i64 u ∧ b < u ∧ u ≤ j ∧ Hid (∀ v, v < u → restF U s g j t v < restF U s g j t b ∨ (restF U s g j t v = restF U s g j t b ∧ b ≤ v)) ∧ Hid (RaI w x j p q g (partF U s g j t) (restF U s g j t) wr)) (fun _ i _ => j - (RowKit.intOf i).toNat)
                  case atStart => exact ⟨0, 1, rfl, rfl, by omega, hn1, Lib.hid (fun v hv => by obtain rfl : v = 0 := (by omega); exact .inr ⟨rfl, Nat.le_refl _⟩), HI⟩
                  case round =>
                    clear HI
                    obtain ⟨b, u, rfl, rfl, hbu, huj, HB, HI⟩ := hrel
                    by_cases hu : u < j
                    · have d1 := HI.out.rest.cell u hu
                      have d2 := HI.out.rest.cell b (by omega)
                      have g1 : (0 : Int) ≤ (u : Int) := by omega
                      have g2 : (u : Int) < (j : Int) := by omega
                      have g3 : ((u : Int)).toNat = u := by omega
                      have g4 : (0 : Int) ≤ (b : Int) := by omega
                      have g5 : (b : Int) < (j : Int) := by omega
                      have g6 : ((b : Int)).toNat = b := by omega
                      by_cases hv : restF U s g j t b < restF U s g j t u
                      · have hb2 : Hid (∀ v, v < u + 1 → restF U s g j t v < restF U s g j t u ∨ (restF U s g j t v = restF U s g j t u ∧ u ≤ v)) := Lib.hid (fun v h => by
                          by_cases e : v = u
                          · rw [e]; exact .inr ⟨rfl, Nat.le_refl _⟩
                          · have := HB.out v (by omega); omega)
                        have hvz : decide (restF U s g j t b < restF U s g j t u) = true := decide_eq_true hv
                        go_wp2_with fail
                        go_quiet (fail)
                        have HI2 := Lib.hid (HI.out.drewN nq)
                        go_wp2_with fail
                        go_roundw
                        case rel => exact ⟨u, u + 1, rfl, by go_num, by omega, by omega, hb2, HI2⟩
                        case measure => simp [RowKit.intOf]; omega
                      · have hb2 : Hid (∀ v, v < u + 1 → restF U s g j t v < restF U s g j t b ∨ (restF U s g j t v = restF U s g j t b ∧ b ≤ v)) := Lib.hid (fun v h => by
                          by_cases e : v = u
                          · rw [e]; omega
                          · exact HB.out v (by omega))
                        have hvz : decide (restF U s g j t b < restF U s g j t u) = false := decide_eq_false hv
                        go_wp2_with fail
                        go_quiet (fail)
                        have HI2 := Lib.hid (HI.out.drewN nq)
                        go_wp2_with fail
                        go_roundw
                        case rel => exact ⟨b, u + 1, rfl, by go_num, by omega, by omega, hb2, HI2⟩
                        case measure => simp [RowKit.intOf]; omega
                    · obtain rfl : u = j := by omega
                      have hbest := best_is (T := U) (g := g) hs (by omega : t < u) hbu HB.out
                      have HBE := Lib.hid hbest
                      clear hbest HB
                      have d1 := HI.out.parts.cell b hbu
                      have f1 := HI.out.parts.free b hbu
                      obtain ⟨y5, y6⟩ := part_bd (T := U) (t := t) U0 hs H0.out HS.out hbu
                      have n1 := HI.out.ne
                      have HP := Lib.hid (HI.out.setP hbu (partF U s g u t b + 1))
                      have d2 := HP.out.rest.cell b hbu
                      have f2 := HP.out.rest.free b hbu
                      have HI2 : Hid (RaI w x u p q g (partF U s g u (t + 1)) (restF U s g u (t + 1)) ((wr.setCell ⟨p, b, none⟩ (.int .i64 (partF U s g u t b + 1))).setCell ⟨q, b, none⟩ (.int .i64 (-1)))) := Lib.hid ((HP.out.setQ hbu (-1)).congr (fun i hi => by
                        unfold partF
                        simp only [timesF]
                        rw [← HBE.out]
                        by_cases e : i = b
                        · rw [if_pos e, if_pos e.symm, e]; omega
                        · rw [if_neg e, if_neg (fun h => e h.symm)]; omega) (fun i hi => by rw [rest_step, ← HBE.out]))
                      have hp1 := HI.out.p1
                      have hq1 := HI.out.q1
                      clear HI HP
                      go_wp2_with fail
                      go_roundw
                      case rel => exact ⟨t + 1, hlt, by first | (congr 1; done) | (congr 1; omega), HI2⟩
                      case measure => simp [RowKit.intOf]; omega
                · obtain rfl : t = M := by omega
                  have hlt3 : decide ((0 : Int) < ((t - t : Nat) : Int)) = false := decide_eq_false (by omega)
                  by_cases hT : T < 0
                  · have hTz : decide (T < 0) = true := decide_eq_true hT
                    have HF : Hid (alloF T s g j = fun i => -(partF U s g j t i)) := Lib.hid (by funext i; unfold alloF; rw [if_pos hT, ← HU.out.1 hT, HMM.out])
                    have hMj := e2
                    go_wp2_with fail
                    go_loopw [15] (fun i wr => ∃ v : Nat, v ≤ j ∧ i = .int .i64 v ∧ Hid (RaI w x j p q g (fun i => if i < v then -(partF U s g j t i) else partF U s g j t i) (restF U s g j t) wr)) (fun i _ => j - (RowKit.intOf i).toNat)
                    case atStart => exact ⟨0, by omega, rfl, Lib.hid (HI.out.congr (fun i _ => by simp) (fun i _ => rfl))⟩
                    case round =>
                      clear HI
                      obtain ⟨v, hv, rfl, HI⟩ := hrel
                      by_cases hlt : v < j
                      · have y3 := HI.out.parts.cell v hlt
                        rw [if_neg (by omega)] at y3
                        have y4 := HI.out.parts.free v hlt
                        obtain ⟨y5, y6⟩ := part_bd (T := U) (t := t) U0 hs H0.out HS.out hlt
                        have hvz : decide ((v : Int) < (j : Int)) = true := decide_eq_true (by omega)
                        have HI2 : Hid (RaI w x j p q g (fun i => if i < v + 1 then -(partF U s g j t i) else partF U s g j t i) (restF U s g j t) (wr.setCell ⟨p, v, none⟩ (.int .i64 (-(partF U s g j t v))))) := Lib.hid ((HI.out.setP hlt (-(partF U s g j t v))).congr (fun i hi => by
                          by_cases e : i = v
                          · rw [if_pos e, if_pos (by omega), e]
                          · rw [if_neg e]
                            by_cases e2 : i < v
                            · rw [if_pos e2, if_pos (by omega)]
                            · rw [if_neg e2, if_neg (by omega)]) (fun i hi => rfl))
                        clear HI
                        go_wp2_with fail
                        go_roundw
                        case rel => exact ⟨v + 1, hlt, by go_num, HI2⟩
                        case measure => simp [RowKit.intOf]; omega
                      · obtain rfl : v = j := by omega
                        have hvz : decide ((v : Int) < (v : Int)) = false := decide_eq_false (by omega)
                        go_wp2_with fail
                        go_ret2
                        exact ⟨p, rfl, HI.out.p0, HI.out.p1, HI.out.parts.congr (fun i hi => by rw [HF.out, if_pos hi]), HI.out.below⟩
                  · have hTz : decide (T < 0) = false := decide_eq_false hT
                    have HF : Hid (alloF T s g j = partF U s g j t) := Lib.hid (by funext i; unfold alloF; rw [if_neg hT, ← HU.out.2 (by omega), HMM.out])
                    go_wp2_with fail
                    refine wp_loop_rounds 1 ?_
                    rw [rounds_succ]
                    go_wp2_with fail
                    go_ret2
                    exact ⟨p, rfl, HI.out.p0, HI.out.p1, by rw [HF.out]; exact HI.out.parts, HI.out.below⟩
end Go.Proofs.YtmgglcfndhfceaaGreatDoor
