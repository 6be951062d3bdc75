/-
  ClockLimits returns true: MaxChanges changes are accepted, and not one more. Condition: the numbers fit their kinds.
-/
import Derived.Test.YtbbfkpkibakieaaPrZy
import Derived.OwnWalk
namespace Go.Proofs.Ytbbfkpkibakieaa
open Go Go.RowKit Go.Lib Go.Proofs.Ytbbfkpkibakieaa.Tp

/-- The changes of a great zone. -/
def limL (k : Nat) : List (Int × Int) := (List.range k).map fun (i : Nat) => (29453760 + 10 * (i : Int), 60 * ((i : Int) % 2))
theorem limL_succ (k : Nat) : limL (k + 1) = limL k ++ [(29453760 + 10 * (k : Int), 60 * ((k : Int) % 2))] := by simp [limL, List.range_succ]
theorem limL_len (k : Nat) : (limL k).length = k := by simp [limL]
theorem limL_asc (k : Nat) (hk : k ≤ 65) : Asc (-1) (limL k) ∧ ∀ c ∈ limL k, c.1 < 29453760 + 10 * (k : Int) := by
  induction k with
  | zero => exact ⟨trivial, fun c hc => by simp [limL] at hc⟩
  | succ k ih =>
    obtain ⟨h1, h2⟩ := ih (by omega)
    rw [limL_succ]
    refine ⟨asc_snoc h1 h2 (by omega) (by omega) (by omega) (by omega) (by omega), fun c hc => ?_⟩
    rcases List.mem_append.1 hc with hc | hc
    · have := h2 c hc; omega
    · simp only [List.mem_singleton] at hc
      subst hc
      show 29453760 + 10 * (k : Int) < 29453760 + 10 * ((k + 1 : Nat) : Int)
      omega
theorem limL_ok (k : Nat) (hk : k ≤ 64) : vE 30 (limL k) = 0 := by
  unfold vE; rw [if_neg (by rw [limL_len]; omega), if_neg (by omega)]
  exact asc_vL _ _ (limL_asc k (by omega)).1
theorem limL_no (k : Nat) (hk : 64 < k) : vE 30 (limL k) = 3 := by unfold vE; rw [if_pos (by rw [limL_len]; omega)]

theorem own_cells (w : World) (cs : Array Value) (t : TypeId) (k : Nat) (u : Value) (h : cs.toList[k]? = some u) : (w.alloc (.cells cs t)).cell? ((⟨w.heap.size, 0, none⟩ : Addr).add k) = some u := by
  have e : (⟨w.heap.size, 0, none⟩ : Addr).add k = ⟨w.heap.size, k, none⟩ := by unfold Addr.add; split <;> simp_all
  rw [e, World.cell?_alloc_at _ _ _ _ rfl]
  simpa using h

/-- The zone while it is made. -/
structure LG (w0 : World) (v : Value) (cs : List (Int × Int)) (W : World) : Prop where
  box : W.heap[w0.heap.size]? = some (.cells #[.int .i64 30, v] 24 (0, 0))
  row : W.ownsRow (w0.heap.size + 1) 27 2 v cs.length (cs.flatMap ccells)
  below : Below w0.heap.size w0 W
theorem LG.stored {w0 W w6 : World} {v v' : Value} {cs : List (Int × Int)} {c : Int × Int} {o : Obj} (h : LG w0 v cs W) (hg : (W.alloc o).grownBy w6 v.ownBlock)
    (hown : w6.ownsRow (w0.heap.size + 1) 27 2 v' (cs.length + 1) (cs.flatMap ccells ++ [.int .i64 c.1, .int .i64 c.2])) :
    w6.heap[w0.heap.size]? = some (.cells #[.int .i64 30, v] 24 (0, 0)) ∧ LG w0 v' (cs ++ [c]) (w6.setCell ⟨w0.heap.size, 1, none⟩ v') := by
  have hlt : w0.heap.size < W.heap.size := (Array.getElem?_eq_some_iff.1 h.box).1
  have hOwn : ∀ j, v.ownBlock = some j → w0.heap.size + 1 ≤ j := fun j e => (h.row.lt j e).1
  have e1 : w6.heap[w0.heap.size]? = some (.cells #[.int .i64 30, v] 24 (0, 0)) :=
    (hg.block _ (by simp; omega) (fun e => by have := hOwn _ e.symm; omega)).trans ((Below.heap_alloc W o _ hlt).trans h.box)
  refine ⟨e1, box_set1 e1 v', ?_, ?_⟩
  · rw [List.length_append, List.flatMap_append, List.length_singleton]
    have e3 : [c].flatMap ccells = [.int .i64 c.1, .int .i64 c.2] := by simp [ccells]
    rw [e3]
    have hz : w6.grownBy (w6.setCell ⟨w0.heap.size, 1, none⟩ v') (some w0.heap.size) := ⟨rfl, rfl, rfl, by simp [World.setCell], fun k _ hk => Below.heap_setCell _ _ _ k (fun e => hk (by rw [e]))⟩
    refine hown.kept hz ?_
    rcases hown.2 with ⟨rfl, _⟩ | ⟨g, cap, cur, rfl, hg', hc, rest⟩
    · exact .inl rfl
    · refine .inr fun e => ?_
      have e4 : g = w0.heap.size := by simpa [Value.ownBlock] using e
      omega
  · refine ((h.below.alloc h.below.size o).grown hg (by have := h.below.size; simp; omega) (fun j e => by have := hOwn j e; omega)).setCell (p := ⟨w0.heap.size, 1, none⟩) (Nat.le_refl _) _

set_option maxRecDepth 100000 in
set_option maxHeartbeats 4000000 in
theorem lim_walk (n at_ : Int) (n0 : -9223372036854775808 ≤ n) (n1 : n ≤ 9223372036854775807) (a0 : -9223372036854775808 ≤ at_) (a1 : at_ ≤ 9223372036854775807) (w : World) :
    Calls Try.prog 3 #[.int .i64 n, .int .i64 at_] w (RetB true w) := by
  have m0 := modT_lo n 3 (by omega)
  have m1 := modT_hi n 3 (by omega)
  have HM := Lib.hid (mod_any n 3 n0 n1 (by omega) (by omega))
  have p0 := modT_lo at_ 2000 (by omega)
  have p1 := modT_hi at_ 2000 (by omega)
  have HP := Lib.hid (mod_any at_ 2000 a0 a1 (by omega) (by omega))
  have HI := Lib.hid (info_parts infoChg)
  generalize modT n 3 = m at *
  generalize modT at_ 2000 = p at *
  obtain ⟨m, rfl⟩ := Int.eq_ofNat_of_zero_le m0
  have hm : m ≤ 2 := by omega
  clear m0 m1
  go_enter Try.func3, Try.ntmps3
  go_wp2_with fail
  refine (HM.out _).mono ?_
  rintro e w1 ⟨rfl, rfl⟩
  have G0 : LG w (.slice none 0 0) [] (w.alloc (.cells #[.int .i64 30, .slice none 0 0] 24)) := ⟨World.alloc_heap_new w _, World.ownsRow_nil _ _ _ _, (Below.refl _ _).alloc (Nat.le_refl _) _⟩
  go_wp2_with fail
  go_loopw [6] (fun iv wr => ∃ (i k : Nat) (v : Value), iv = .int .i64 i ∧ i + k = 63 + m ∧ Hid (LG w v (limL k) wr)) (fun iv _ => (Go.RowKit.intOf iv).toNat)
  case atStart => exact ⟨63 + m, 0, _, by go_num, rfl, Lib.hid G0⟩
  case round =>
    obtain ⟨i, k, v, rfl, hik, HG⟩ := hrel
    clear G0
    rcases i with _ | i
    · clear HI HM
      have hr0 := HG.out.row
      rw [limL_len] at hr0
      obtain ⟨va, vc, rfl, hcr, hvb⟩ := chRow_own (n := k) (limL_len k) hr0
      clear hr0
      have R0 : RZ w 30 va k vc (limL k) wr := ⟨HG.out.box, hcr, HG.out.below⟩
      have CV := valid_any 30 va k vc (limL k) (by omega)
      have CR := Lib.hid (reads_any 30 va k vc (limL k) (29453760 + p - 1000) (29453760 + p - 1000 + 30) 20454 (by omega) (by omega) (by omega))
      clear HG hcr hvb
      have z0 := R0.box.c0
      have z1 := R0.box.c1
      have hv : (vE 30 (limL k) = 0 ∧ k ≤ 64) ∨ (vE 30 (limL k) = 3 ∧ 64 < k) := by
        by_cases h : k ≤ 64
        · exact .inl ⟨limL_ok k h, h⟩
        · exact .inr ⟨limL_no k (by omega), by omega⟩
      generalize limL k = cs at *
      rcases hv with ⟨hv, hk⟩ | ⟨hv, hk⟩ <;> rw [hv] at CV <;> replace CV := Lib.hid CV <;> clear hv
      · have hle : decide ((k : Int) ≤ 64) = true := decide_eq_true (by omega)
        go_wp2_with fail
        refine (HP.out _).mono ?_
        rintro e w1 ⟨rfl, rfl⟩
        go_wp2_with fail
        have gw : IntKind.i64.wrap (29453760 + p - 1000 + 30) = 29453760 + p - 1000 + 30 := IntWalk.i64_in _ (by omega)
        have RD := R0.step (Below.drew (Below.refl _ _))
        go_region_held3 (fun w' => w'.cell? ⟨w.heap.size, 0, none⟩ = some (.int .i64 30) ∧ w'.cell? ⟨w.heap.size, 1, none⟩ = some (.slice va k vc))
          (first | exact ⟨R4.box.c0, R4.box.c1⟩ | exact ⟨R3.box.c0, R3.box.c1⟩ | exact ⟨R2.box.c0, R2.box.c1⟩ | exact ⟨RD.box.c0, RD.box.c1⟩ | go_keep)
          (first
            | (go_at_call 10; refine (CV.out _ RD.row).mono ?_; rintro e w2 ⟨rfl, hw2⟩; have R2 := RD.step hw2)
            | (go_at_call 11; refine (CR.out _ R2.row).mono ?_; rintro e w3 ⟨rfl, hw3⟩; have R3 := R2.step hw3)
            | (go_at_call 12; refine (sane_any _).mono ?_; rintro e w4 ⟨rfl, hw4⟩; have R4 := R3.step hw4))
        go_wp2_with fail
        go_ret
        exact ⟨rfl, R4.below⟩
      · have hle : decide ((k : Int) ≤ 64) = false := decide_eq_false (by omega)
        go_wp2_with fail
        refine (HP.out _).mono ?_
        rintro e w1 ⟨rfl, rfl⟩
        go_wp2_with fail
        have gw : IntKind.i64.wrap (29453760 + p - 1000 + 30) = 29453760 + p - 1000 + 30 := IntWalk.i64_in _ (by omega)
        have RD := R0.step (Below.drew (Below.refl _ _))
        go_region_held3 (fun w' => w'.cell? ⟨w.heap.size, 0, none⟩ = some (.int .i64 30) ∧ w'.cell? ⟨w.heap.size, 1, none⟩ = some (.slice va k vc))
          (first | exact ⟨R4.box.c0, R4.box.c1⟩ | exact ⟨R3.box.c0, R3.box.c1⟩ | exact ⟨R2.box.c0, R2.box.c1⟩ | exact ⟨RD.box.c0, RD.box.c1⟩ | go_keep)
          (first
            | (go_at_call 10; refine (CV.out _ RD.row).mono ?_; rintro e w2 ⟨rfl, hw2⟩; have R2 := RD.step hw2)
            | (go_at_call 11; refine (CR.out _ R2.row).mono ?_; rintro e w3 ⟨rfl, hw3⟩; have R3 := R2.step hw3)
            | (go_at_call 12; refine (sane_any _).mono ?_; rintro e w4 ⟨rfl, hw4⟩; have R4 := R3.step hw4))
        go_wp2_with fail
        go_ret
        exact ⟨rfl, R4.below⟩
    · obtain ⟨i0, hi0, hz0, hz1, hz2⟩ := HI.out
      have hlen := limL_len k
      obtain ⟨va, vc, rfl, hcr, hvb⟩ := chRow_own (n := (limL k).length) rfl HG.out.row
      rw [hlen] at HG
      have c0 : wr.cell? ⟨w.heap.size, 0, none⟩ = some (.int .i64 30) := by simp [World.cell?, HG.out.box]
      have c1 := boxc1 HG.out.box
      have f1 := boxf1 HG.out.box
      have hr := HG.out.row
      rw [hlen] at hr
      have HR := Lib.hid hr
      have hsz : w.heap.size < wr.heap.size := (Array.getElem?_eq_some_iff.1 HG.out.box).1
      have hk65 : k ≤ 65 := by omega
      clear hr hcr hvb hlen
      go_wp2_with (at_builtin; refine wpList_append_own _ rfl _ _ 22 rfl (w.heap.size + 1) 27 i0 (.agg #[.int .i64 0, .int .i64 0]) 2 16 Try.underlying22 hi0 hz0 hz1 hz2 rfl (by decide) _ _ _ rfl (HR.out.alloc _) ⟨wr.heap.size, 0, none⟩ 1 1 (ccells (29453760 + 10 * (k : Int), 60 * ((k : Int) % 2))) rfl rfl ?c1 ?c2 ?c3 ?c4 ?c5 ?_)
      case c1 => intro i u hu; exact own_cells _ _ _ i u hu
      case c2 => intro u hu; simp [ccells] at hu; rcases hu with rfl | rfl <;> rfl
      case c3 => unfold maxLen; omega
      case c4 => omega
      case c5 => simp; omega
      intro v2 w4 hown2 hgrow2 _
      have hown2' : w4.ownsRow (w.heap.size + 1) 27 2 v2 ((limL k).length + 1) ((limL k).flatMap ccells ++ [.int .i64 (29453760 + 10 * (k : Int)), .int .i64 (60 * ((k : Int) % 2))]) := by rw [limL_len]; exact hown2
      obtain ⟨e4, G4⟩ := LG.stored (c := (29453760 + 10 * (k : Int), 60 * ((k : Int) % 2))) HG.out hgrow2 hown2'
      rw [← limL_succ] at G4
      obtain ⟨va2, vc2, rfl, _, _⟩ := chRow_own rfl G4.row
      have HG4 := Lib.hid G4
      have d1 := boxc1 e4
      have d2 := boxf1 e4
      clear hown2 hown2' hgrow2 HG HR G4 e4 c0 c1 f1
      go_wp2_with fail
      go_roundw
      case rel => exact ⟨i, k + 1, _, by go_num, by omega, HG4⟩
      case measure => simp [Go.RowKit.intOf]
end Go.Proofs.Ytbbfkpkibakieaa
