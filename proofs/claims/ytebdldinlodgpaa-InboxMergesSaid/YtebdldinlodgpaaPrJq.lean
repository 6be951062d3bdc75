/-
  Layer 7 (records): equality of events and of gaps; the law's comparison of two results of Decode that are one: true. Condition: the lists read as the same events and gaps.
-/
import Derived.Test.YtebdldinlodgpaaPrJp
import Derived.Laws.StructEq
namespace Go.Proofs.Ytebdldinlodgpaa.Rc
open Go Go.RowKit Go.Lib Go.Sort Go.Shelf Go.Proofs Go.Proofs.Ytebdldinlodgpaa Go.Proofs.Ytebdldinlodgpaa.Tp
set_option linter.unusedVariables false

def eqE (x y : Ev) : Bool := decide (x.kt = y.kt) && decide (x.ks = y.ks) && decide (x.em = y.em) && decide (x.ti = y.ti) && decide (x.ki = y.ki) && decide (x.tt = y.tt) && decide (x.ts = y.ts)
set_option maxRecDepth 100000 in
theorem equal_key (a b c d : Int) (w : World) : (Op.equalIn 9999 24 (.agg #[.int .i64 a, .int .i64 b]) (.agg #[.int .i64 c, .int .i64 d])).run Try.prog w = .ok (decide (a = c) && decide (b = d)) w := by
  have hS : Try.prog.underlying 24 = some (.struct (Try.prog.fieldsOf 24)) := by kernel_rfl
  have hp : Try.prog.stoodInHeld 24 = false := by kernel_rfl
  have u3 := Try.underlying3
  have a3 := Try.isAgg3
  have z3 := Try.sizeOf3
  rw [show (9999 : Nat) = 9998 + 1 from rfl, run_equalIn_agg w 9998 24 _ _ hS hp]
  simp only [Program.fieldsOf, Try.underlying24]
  go_simp
  by_cases h1 : a = c <;> by_cases h2 : b = d <;> simp [h1, h2]
set_option maxRecDepth 100000 in
theorem equal_gap (a b : Int) (w : World) : (Op.equalIn 10000 55 (.agg #[.int .i64 a, .int .i64 b]) (.agg #[.int .i64 a, .int .i64 b])).run Try.prog w = .ok true w := by
  have hS : Try.prog.underlying 55 = some (.struct (Try.prog.fieldsOf 55)) := by kernel_rfl
  have hp : Try.prog.stoodInHeld 55 = false := by kernel_rfl
  have u3 := Try.underlying3
  have a3 := Try.isAgg3
  have z3 := Try.sizeOf3
  rw [show (10000 : Nat) = 9999 + 1 from rfl, run_equalIn_agg w 9999 55 _ _ hS hp]
  simp only [Program.fieldsOf, Try.underlying55]
  go_simp
set_option maxRecDepth 100000 in
/-- The model's '==' at events. -/
theorem equal_ev (x y : Ev) (w : World) : (Op.equalIn 10000 26 (.agg #[.int .i64 x.kt, .int .i64 x.ks, .int .i64 x.em, .int .i64 x.ti, .int .i64 x.ki, .int .i64 x.tt, .int .i64 x.ts]) (.agg #[.int .i64 y.kt, .int .i64 y.ks, .int .i64 y.em, .int .i64 y.ti, .int .i64 y.ki, .int .i64 y.tt, .int .i64 y.ts])).run Try.prog w = .ok (eqE x y) w := by
  have hS : Try.prog.underlying 26 = some (.struct (Try.prog.fieldsOf 26)) := by kernel_rfl
  have hp : Try.prog.stoodInHeld 26 = false := by kernel_rfl
  have hS2 : Try.prog.underlying 24 = some (.struct (Try.prog.fieldsOf 24)) := by kernel_rfl
  have hp2 : Try.prog.stoodInHeld 24 = false := by kernel_rfl
  have u3 := Try.underlying3
  have a3 := Try.isAgg3
  have z3 := Try.sizeOf3
  have u4 := Try.underlying24
  have a4 := Try.isAgg24
  have z4 := Try.sizeOf24
  have HK := fun a b c d W => equal_key a b c d W
  rw [show (10000 : Nat) = 9999 + 1 from rfl, run_equalIn_agg w 9999 26 _ _ hS hp]
  simp only [Program.fieldsOf, Try.underlying26]
  go_simp
  unfold eqE
  by_cases h1 : x.kt = y.kt <;> by_cases h2 : x.ks = y.ks <;> by_cases h3 : x.em = y.em <;> by_cases h4 : x.ti = y.ti <;> by_cases h5 : x.ki = y.ki <;> by_cases h6 : x.tt = y.tt <;> by_cases h7 : x.ts = y.ts <;> simp [h1, h2, h3, h4, h5, h6, h7]
theorem neq_ev (x y : Ev) (w : World) : (binOp .neq 26 (.agg #[.int .i64 x.kt, .int .i64 x.ks, .int .i64 x.em, .int .i64 x.ti, .int .i64 x.ki, .int .i64 x.tt, .int .i64 x.ts]) (.agg #[.int .i64 y.kt, .int .i64 y.ks, .int .i64 y.em, .int .i64 y.ti, .int .i64 y.ki, .int .i64 y.tt, .int .i64 y.ts])).run Try.prog w = .ok (.bool (!eqE x y)) w := by
  rw [run_neq_struct, equal_ev]; rfl
theorem eql_ev (x y : Ev) (w : World) : (binOp .eql 26 (.agg #[.int .i64 x.kt, .int .i64 x.ks, .int .i64 x.em, .int .i64 x.ti, .int .i64 x.ki, .int .i64 x.tt, .int .i64 x.ts]) (.agg #[.int .i64 y.kt, .int .i64 y.ks, .int .i64 y.em, .int .i64 y.ti, .int .i64 y.ki, .int .i64 y.tt, .int .i64 y.ts])).run Try.prog w = .ok (.bool (eqE x y)) w := by
  rw [run_eql_struct, equal_ev]; rfl
theorem neq_gap (a b : Int) (w : World) : (binOp .neq 55 (.agg #[.int .i64 a, .int .i64 b]) (.agg #[.int .i64 a, .int .i64 b])).run Try.prog w = .ok (.bool false) w := by
  rw [run_neq_struct, equal_gap]; rfl
theorem eql_gap (a b : Int) (w : World) : (binOp .eql 55 (.agg #[.int .i64 a, .int .i64 b]) (.agg #[.int .i64 a, .int .i64 b])).run Try.prog w = .ok (.bool true) w := by
  rw [run_eql_struct, equal_gap]; rfl
theorem grd_ev : Try.prog.eqGuardType Try.prog.depth 26 = false := by kernel_rfl
theorem grd_gap : Try.prog.eqGuardType Try.prog.depth 55 = false := by kernel_rfl
theorem eqE_self (e : Ev) : eqE e e = true := by unfold eqE; simp
theorem eqE_iff (x y : Ev) : eqE x y = true ↔ x = y := by
  unfold eqE
  constructor
  · intro h
    simp at h
    obtain ⟨⟨⟨⟨⟨⟨h1, h2⟩, h3⟩, h4⟩, h5⟩, h6⟩, h7⟩ := h
    exact Ev.ext' h1 h2 h3 h4 h5 h6 h7
  · rintro rfl; simp
instance : Inhabited Ev := ⟨zE⟩
/-- The seven cells from an address on. -/
def At7 (W : World) (g o : Nat) (e : Ev) : Prop := W.cell? ⟨g, o, none⟩ = some (.int .i64 e.kt) ∧ W.cell? ⟨g, o + 1, none⟩ = some (.int .i64 e.ks) ∧ W.cell? ⟨g, o + 2, none⟩ = some (.int .i64 e.em) ∧ W.cell? ⟨g, o + 3, none⟩ = some (.int .i64 e.ti) ∧ W.cell? ⟨g, o + 4, none⟩ = some (.int .i64 e.ki) ∧ W.cell? ⟨g, o + 5, none⟩ = some (.int .i64 e.tt) ∧ W.cell? ⟨g, o + 6, none⟩ = some (.int .i64 e.ts)
theorem At7.keep {W W' : World} {g o : Nat} {e : Ev} (h : At7 W g o e) (hb : W'.heap[g]? = W.heap[g]?) : At7 W' g o e := by
  obtain ⟨a0, a1, a2, a3, a4, a5, a6⟩ := h
  exact ⟨(World.cell?_of_block (a := ⟨g, o, none⟩) hb).trans a0, (World.cell?_of_block (a := ⟨g, o + 1, none⟩) hb).trans a1, (World.cell?_of_block (a := ⟨g, o + 2, none⟩) hb).trans a2, (World.cell?_of_block (a := ⟨g, o + 3, none⟩) hb).trans a3, (World.cell?_of_block (a := ⟨g, o + 4, none⟩) hb).trans a4, (World.cell?_of_block (a := ⟨g, o + 5, none⟩) hb).trans a5, (World.cell?_of_block (a := ⟨g, o + 6, none⟩) hb).trans a6⟩
theorem At7.lt {W : World} {g o : Nat} {e : Ev} (h : At7 W g o e) : g < W.heap.size := World.block_lt_of_cell? W _ h.1
/-- The slice's cells hold these events. -/
def ERow (W : World) (v : Value) (es : List Ev) : Prop := ∃ A C, v = .slice A es.length C ∧ (0 < es.length → ∃ g, A = some ⟨g, 0, none⟩ ∧ ∀ i, i < es.length → At7 W g (i * 7) es[i]!)
def GRow (W : World) (v : Value) (gs : List (Nat × Nat)) : Prop := ∃ A C, v = .slice A gs.length C ∧ (0 < gs.length → ∃ g, A = some ⟨g, 0, none⟩ ∧ ∀ i, i < gs.length → W.cell? ⟨g, i * 2, none⟩ = some (.int .i64 ((gs[i]!).1 : Int)) ∧ W.cell? ⟨g, i * 2 + 1, none⟩ = some (.int .i64 ((gs[i]!).2 : Int)))
theorem ERow.more {W W' : World} {v : Value} {es : List Ev} (h : ERow W v es) (hb : Below W.heap.size W W') : ERow W' v es := by
  obtain ⟨A, C, e, h⟩ := h
  refine ⟨A, C, e, fun hn => ?_⟩
  obtain ⟨g, hg, hc⟩ := h hn
  exact ⟨g, hg, fun i hi => (hc i hi).keep (hb.block g (hc i hi).lt)⟩
theorem GRow.more {W W' : World} {v : Value} {gs : List (Nat × Nat)} (h : GRow W v gs) (hb : Below W.heap.size W W') : GRow W' v gs := by
  obtain ⟨A, C, e, h⟩ := h
  refine ⟨A, C, e, fun hn => ?_⟩
  obtain ⟨g, hg, hc⟩ := h hn
  exact ⟨g, hg, fun i hi => ⟨(hb.cell (World.block_lt_of_cell? W _ (hc i hi).1)).trans (hc i hi).1, (hb.cell (World.block_lt_of_cell? W _ (hc i hi).2)).trans (hc i hi).2⟩⟩
theorem fE_get (l : List Ev) (i j : Nat) (h : i < l.length) (hj : j < 7) : (l.flatMap eE)[i * 7 + j]? = (eE l[i]!)[j]? := by
  induction l generalizing i with
  | nil => simp at h
  | cons c l ih =>
    cases i with
    | zero =>
      rw [List.flatMap_cons, List.getElem?_append_left (by simp [eE]; omega)]
      simp
    | succ i =>
      rw [List.flatMap_cons, List.getElem?_append_right (by simp [eE]; omega), show (i + 1) * 7 + j - (eE c).length = i * 7 + j by simp [eE]; omega, ih i (by simpa using h)]
      simp
theorem fG_get (l : List (Nat × Nat)) (i j : Nat) (h : i < l.length) (hj : j < 2) : (l.flatMap eG)[i * 2 + j]? = (eG l[i]!)[j]? := by
  induction l generalizing i with
  | nil => simp at h
  | cons c l ih =>
    cases i with
    | zero =>
      rw [List.flatMap_cons, List.getElem?_append_left (by simp [eG]; omega)]
      simp
    | succ i =>
      rw [List.flatMap_cons, List.getElem?_append_right (by simp [eG]; omega), show (i + 1) * 2 + j - (eG c).length = i * 2 + j by simp [eG]; omega, ih i (by simpa using h)]
      simp
theorem OwnE.erow {w W : World} {v : Value} {es : List Ev} (h : OwnE w v es W) : ERow W v es := by
  rcases OwnL.form h with ⟨e, rfl⟩ | ⟨g, cap, e, h1, h2, h3, h4⟩
  · exact ⟨none, 0, e, fun h => absurd h (by decide)⟩
  · subst e
    refine ⟨_, cap, rfl, fun hn => ⟨g, rfl, fun i hi => ?_⟩⟩
    have k : ∀ j, j < 7 → ∀ u, (eE es[i]!)[j]? = some u → W.cell? ⟨g, i * 7 + j, none⟩ = some u := fun j hj u hu => by
      have := h.row.cells (g := g) rfl (i * 7 + j) u (by rw [fE_get es i j hi hj]; exact hu)
      rwa [show (⟨g, 0, none⟩ : Addr).add (i * 7 + j) = ⟨g, i * 7 + j, none⟩ by rw [Addr.add_lit, Nat.zero_add]] at this
    exact ⟨k 0 (by decide) _ rfl, k 1 (by decide) _ rfl, k 2 (by decide) _ rfl, k 3 (by decide) _ rfl, k 4 (by decide) _ rfl, k 5 (by decide) _ rfl, k 6 (by decide) _ rfl⟩
theorem OwnG.grow {w W : World} {v : Value} {gs : List (Nat × Nat)} (h : OwnG w v gs W) : GRow W v gs := by
  rcases OwnL.form h with ⟨e, rfl⟩ | ⟨g, cap, e, h1, h2, h3, h4⟩
  · exact ⟨none, 0, e, fun h => absurd h (by decide)⟩
  · subst e
    refine ⟨_, cap, rfl, fun hn => ⟨g, rfl, fun i hi => ?_⟩⟩
    have k : ∀ j, j < 2 → ∀ u, (eG gs[i]!)[j]? = some u → W.cell? ⟨g, i * 2 + j, none⟩ = some u := fun j hj u hu => by
      have := h.row.cells (g := g) rfl (i * 2 + j) u (by rw [fG_get gs i j hi hj]; exact hu)
      rwa [show (⟨g, 0, none⟩ : Addr).add (i * 2 + j) = ⟨g, i * 2 + j, none⟩ by rw [Addr.add_lit, Nat.zero_add]] at this
    exact ⟨k 0 (by decide) _ rfl, k 1 (by decide) _ rfl⟩

def TrueR (w : World) (r : Ending) (w' : World) : Prop := r = .returned (.bool true) ∧ Below w.heap.size w w'
set_option maxRecDepth 100000 in
set_option maxHeartbeats 4000000 in
theorem same_any (va vg vb vh : Value) (es : List Ev) (gs : List (Nat × Nat)) (hn : es.length ≤ 1000000) (hm : gs.length ≤ 1000000) (w : World) (h1 : ERow w va es) (h2 : GRow w vg gs) (h3 : ERow w vb es) (h4 : GRow w vh gs) :
    Calls Try.prog 30 #[va, vg, vb, vh] w (TrueR w) := by
  obtain ⟨A1, C1, rfl, h1⟩ := h1
  obtain ⟨A2, C2, rfl, h2⟩ := h2
  obtain ⟨A3, C3, rfl, h3⟩ := h3
  obtain ⟨A4, C4, rfl, h4⟩ := h4
  have H1 := Lib.hid h1
  have H2 := Lib.hid h2
  have H3 := Lib.hid h3
  have H4 := Lib.hid h4
  clear h1 h2 h3 h4
  generalize hne : es.length = n at *
  generalize hmg : gs.length = m at *
  clear hne hmg
  have mixed : Try.prog.follows Departure.mixedOrders = true := by kernel_rfl
  have tn : ((n : Int) != (n : Int)) = false := by simp
  have tm : ((m : Int) != (m : Int)) = false := by simp
  go_enter Try.func30, Try.ntmps30
  go_wp2
  go_loopw [9] (fun x wr => ∃ k : Nat, k ≤ n ∧ x = .int .i64 k ∧ Hid (Gr w wr)) (fun x _ => n - (intOf x).toNat)
  case atStart => exact ⟨0, by omega, rfl, Lib.hid (Gr.refl w)⟩
  case round =>
    obtain ⟨k, hk, rfl, HG⟩ := hrel
    by_cases hlt : k < n
    · obtain ⟨g, hg0, hg⟩ := H1.out (by omega)
      obtain ⟨p, hp0, hp⟩ := H3.out (by omega)
      subst hg0
      subst hp0
      have i1 : (k : Int) < (n : Int) := by omega
      have L1 := fun n os => (hg k hlt).keep ((HG.out.trans (⟨n, os, rfl⟩ : Gr wr (grow (wr.drewN n) os))).below.block g (hg k hlt).lt)
      have L2 := fun n os => (hp k hlt).keep ((HG.out.trans (⟨n, os, rfl⟩ : Gr wr (grow (wr.drewN n) os))).below.block p (hp k hlt).lt)
      generalize es[k]! = c at L1 L2
      obtain ⟨kt, ks, em, ti, ki, tt, ts⟩ := c
      have a0 := fun n os => (L1 n os).1
      have a1 := fun n os => (L1 n os).2.1
      have a2 := fun n os => (L1 n os).2.2.1
      have a3 := fun n os => (L1 n os).2.2.2.1
      have a4 := fun n os => (L1 n os).2.2.2.2.1
      have a5 := fun n os => (L1 n os).2.2.2.2.2.1
      have a6 := fun n os => (L1 n os).2.2.2.2.2.2
      have e0 := fun n os => (L2 n os).1
      have e1 := fun n os => (L2 n os).2.1
      have e2 := fun n os => (L2 n os).2.2.1
      have e3 := fun n os => (L2 n os).2.2.2.1
      have e4 := fun n os => (L2 n os).2.2.2.2.1
      have e5 := fun n os => (L2 n os).2.2.2.2.2.1
      have e6 := fun n os => (L2 n os).2.2.2.2.2.2
      simp only at a0 a1 a2 a3 a4 a5 a6 e0 e1 e2 e3 e4 e5 e6
      have HF := fun W => neq_ev ⟨kt, ks, em, ti, ki, tt, ts⟩ ⟨kt, ks, em, ti, ki, tt, ts⟩ W
      have HG2 := fun op a b W => run_eqGuard_agg (P := Try.prog) W op 26 a b #[.int .i64 kt, .int .i64 ks, .int .i64 em, .int .i64 ti, .int .i64 ki, .int .i64 tt, .int .i64 ts] #[.int .i64 kt, .int .i64 ks, .int .i64 em, .int .i64 ti, .int .i64 ki, .int .i64 tt, .int .i64 ts] grd_ev
      simp only [eqE_self] at HF
      clear L1 L2 hg hp
      go_upto_region 6 with fail
      go_cut [37] (fun s wx => s = .bool false ∧ Hid (Gr w wx))
      case first =>
        go_quiet_grown (fail)
        have G2 := Lib.hid (HG.out.trans (⟨nq, osq, rfl⟩ : Gr wr (grow (wr.drewN nq) osq)))
        go_wp2_with fail
        go_meet
        exact ⟨rfl, G2⟩
      case rest =>
        obtain ⟨hs, G2⟩ := hcut
        subst hs
        clear a0 a1 a2 a3 a4 a5 a6 e0 e1 e2 e3 e4 e5 e6 HF HG2
        go_wp2_with fail
        go_roundw
        case rel => exact ⟨k + 1, by omega, by go_num, G2⟩
        case measure => simp [intOf]; omega
    · obtain rfl : k = n := by omega
      have t0 : decide ((k : Int) < (k : Int)) = false := decide_eq_false (by omega)
      go_wp2_with fail
      go_loopw [10] (fun x wr => ∃ k : Nat, k ≤ m ∧ x = .int .i64 k ∧ Hid (Gr w wr)) (fun x _ => m - (intOf x).toNat)
      case atStart => exact ⟨0, by omega, rfl, HG⟩
      case round =>
        clear HG
        obtain ⟨j, hj, rfl, HG⟩ := hrel
        by_cases hlt : j < m
        · obtain ⟨g, hg0, hg⟩ := H2.out (by omega)
          obtain ⟨p, hp0, hp⟩ := H4.out (by omega)
          subst hg0
          subst hp0
          have i1 : (j : Int) < (m : Int) := by omega
          have a0 := fun n os => ((HG.out.trans (⟨n, os, rfl⟩ : Gr wr (grow (wr.drewN n) os))).below.cell (World.block_lt_of_cell? w _ (hg j hlt).1)).trans (hg j hlt).1
          have a1 := fun n os => ((HG.out.trans (⟨n, os, rfl⟩ : Gr wr (grow (wr.drewN n) os))).below.cell (World.block_lt_of_cell? w _ (hg j hlt).2)).trans (hg j hlt).2
          have e0 := fun n os => ((HG.out.trans (⟨n, os, rfl⟩ : Gr wr (grow (wr.drewN n) os))).below.cell (World.block_lt_of_cell? w _ (hp j hlt).1)).trans (hp j hlt).1
          have e1 := fun n os => ((HG.out.trans (⟨n, os, rfl⟩ : Gr wr (grow (wr.drewN n) os))).below.cell (World.block_lt_of_cell? w _ (hp j hlt).2)).trans (hp j hlt).2
          generalize gs[j]! = c at a0 a1 e0 e1
          obtain ⟨u, v⟩ := c
          simp only at a0 a1 e0 e1
          have HF := fun W => neq_gap u v W
          have HG2 := fun op a b W => run_eqGuard_agg (P := Try.prog) W op 55 a b #[.int .i64 u, .int .i64 v] #[.int .i64 u, .int .i64 v] grd_gap
          clear hg hp
          go_upto_region 11 with fail
          go_cut [52] (fun s wx => s = .bool false ∧ Hid (Gr w wx))
          case first =>
            go_quiet_grown (fail)
            have G2 := Lib.hid (HG.out.trans (⟨nq, osq, rfl⟩ : Gr wr (grow (wr.drewN nq) osq)))
            go_wp2_with fail
            go_meet
            exact ⟨rfl, G2⟩
          case rest =>
            obtain ⟨hs, G2⟩ := hcut
            subst hs
            clear a0 a1 e0 e1 HF HG2
            go_wp2_with fail
            go_roundw
            case rel => exact ⟨j + 1, by omega, by go_num, G2⟩
            case measure => simp [intOf]; omega
        · obtain rfl : j = m := by omega
          have t1 : decide ((j : Int) < (j : Int)) = false := decide_eq_false (by omega)
          go_wp2_with fail
          go_ret
          exact ⟨rfl, HG.out.below⟩
end Go.Proofs.Ytebdldinlodgpaa.Rc
