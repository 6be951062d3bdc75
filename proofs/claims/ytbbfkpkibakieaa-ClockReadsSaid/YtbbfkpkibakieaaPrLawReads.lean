/-
  ClockReads returns true: program and reference agree on drawn zones, on spoiled ones and on any zone. Condition: the tape's cells hold ints; the zone's changes read.
-/
import Derived.Test.YtbbfkpkibakieaaPrSy
import Derived.Deep.RegionHeld3
namespace Go.Proofs.Ytbbfkpkibakieaa
open Go Go.RowKit Go.Lib Go.Proofs.Ytbbfkpkibakieaa.Tp

/-- What the law carries from round to round: the zone that came in, the tape. -/
structure RK (w0 : World) (off : Int) (a : Option Addr) (n cap : Nat) (cs : List (Int × Int)) (W : World) : Prop where
  box : ZBox W w0.heap.size off a n cap
  row : ChRow W w0.heap.size a n cs
  tape : TapeAt (w0.heap.size + 1) W
  only : Only (w0.heap.size + 1) w0 W
section
variable {w0 W W' : World} {off : Int} {a : Option Addr} {n cap : Nat} {cs : List (Int × Int)}
theorem RK.lt (h : RK w0 off a n cap cs W) : w0.heap.size + 1 < W.heap.size := h.tape.lt
theorem RK.step (h : RK w0 off a n cap cs W) (hT : TapeAt (w0.heap.size + 1) W') (hO : Only (w0.heap.size + 1) W W') : RK w0 off a n cap cs W' :=
  ⟨(hO.block _ h.box.lt (by omega)).trans h.box, h.row.kept (fun k o hk ho => (hO.block k (Array.getElem?_eq_some_iff.1 ho).1 (by omega)).trans ho), hT, h.only.trans hO⟩
theorem RK.below (h : RK w0 off a n cap cs W) (hb : Below W.heap.size W W') : RK w0 off a n cap cs W' := h.step (h.tape.below hb) (Only.of_below hb)
theorem RK.alloc (h : RK w0 off a n cap cs W) (o : Obj) : RK w0 off a n cap cs (W.alloc o) := h.below ((Below.refl _ _).alloc (Nat.le_refl _) _)
theorem RK.fin (h : RK w0 off a n cap cs W) : Below w0.heap.size w0 W := h.only.below (by omega) (Nat.le_refl _)
end

theorem isRow_below {w w' : World} {a : Option Addr} {len cap : Nat} {zs : List Int} (h : IsRow w a len cap zs) (hb : Below w.heap.size w w') : IsRow w' a len cap zs := by
  rcases h with h | ⟨x, h0, h1, h2, h3, h4, h5⟩
  · exact .inl h
  · exact .inr ⟨x, h0, h1, h2, h3, fun i hi => (hb.cell (World.block_lt_of_cell? w _ (h4 i hi))).trans (h4 i hi), h5⟩

set_option maxRecDepth 100000 in
set_option maxHeartbeats 4000000 in
theorem rd_walk (a : Option Addr) (len cap : Nat) (zs : List Int) (off : Int) (az : Option Addr) (nz cz : Nat) (csz : List (Int × Int)) (at_ lo d : Int) (w : World) (hrow : IsRow w a len cap zs) (hl : len ≤ 9223372036854775807)
    (hz : ChRow w w.heap.size az nz csz) (hnz : nz ≤ 9223372036854775807) (l0 : -9223372036854775808 ≤ lo) (l1 : lo ≤ 9223372036854775807) :
    Calls Try.prog 4 #[.slice a len cap, .agg #[.int .i64 off, .slice az nz cz], .int .i64 at_, .int .i64 lo, .int .i64 d] w (RetB true w) := by
  have eb : (w.alloc (.cells #[.int .i64 off, .slice az nz cz] 24)).heap.size = w.heap.size + 1 := by simp
  have B0 : Below w.heap.size w (w.alloc (.cells #[.int .i64 off, .slice az nz cz] 24)) := (Below.refl _ _).alloc (Nat.le_refl _) _
  have T0 := tape_new (isRow_below hrow B0) hl 50
  rw [eb] at T0
  have K0 : RK w off az nz cz csz ((w.alloc (.cells #[.int .i64 off, .slice az nz cz] 24)).alloc (.cells #[.slice a len cap, .int .i64 0] 50)) :=
    ⟨(ZBox.new w off az nz cz).more _, (hz.below B0).below ((Below.refl _ _).alloc (by simp) _), T0, ((Only.refl _ w).alloc _).alloc _⟩
  have CR := Lib.hid (fun (w : World) (h : ChRow w w.heap.size az nz csz) => reads_any off az nz cz csz at_ lo d hnz l0 l1 w h)
  clear T0 hrow hz B0
  go_enter Try.func4, Try.ntmps4
  go_wp2_with fail
  refine (gnew_any _ _ _ _).mono ?_
  rintro e w1 ⟨rfl, hw1⟩
  rw [← hw1] at K0
  clear hw1
  rw [eb]
  have HK0 := Lib.hid K0
  clear K0 eb
  go_wp2_with fail
  go_loopw [12] (fun iv wr => ∃ i : Nat, i ≤ 4 ∧ iv = .int .i64 i ∧ Hid (RK w off az nz cz csz wr)) (fun iv _ => 4 - (Go.RowKit.intOf iv).toNat)
  case atStart => exact ⟨0, by omega, rfl, HK0⟩
  case round =>
    obtain ⟨i, hi, rfl, HK⟩ := hrel
    clear HK0
    by_cases hlt : i < 4
    · go_wp2_with fail
      refine (gzone2_any _ _ HK.out.tape).mono ?_
      rintro e w2 ⟨zo, za, zn, zc, cs, rfl, hv, hn, R2, N2, T2, O2, hcap⟩
      have HR := HK.out.step T2 O2
      have hne : ∀ y, za = some y → w.heap.size + 1 < y.block := fun y hy => by have := N2 y hy; have := HK.out.lt; omega
      have K3 := ZK.new (w0 := w) (off := zo) (cap := zc) R2 hne T2 (HK.out.only.trans O2)
      have R3 := HR.alloc (.cells #[.int .i64 zo, .slice za zn zc] 24)
      have hw2 := T2.lt
      clear HR HK R2 N2 T2 O2 hne hv
      go_wp2_with fail
      refine (gnear_any _ _ K3.tape).mono ?_
      rintro e w4 ⟨n0, rfl, p0, p1, T4, O4⟩
      have K4 := K3.step T4 O4
      have R4 := R3.step T4 O4
      clear K3 R3 T4 O4
      go_wp2_with fail
      refine (pick_any _ w4.heap.size [n0, 0, 120968639, 29453759, 29455200] (by simp) (by simp) (by have := K4.tape.lt; omega) _ (K4.alloc _).tape (fiv w4 n0 0 120968639 29453759 29455200 3)).mono ?_
      rintro e w5 ⟨n, rfl, m5, T5, O5⟩
      simp only [List.mem_cons, List.not_mem_nil, or_false] at m5
      have n1 : 0 ≤ n := by omega
      have n2 : n ≤ 120968639 := by omega
      have K5 := (K4.alloc _).step T5 O5
      have R5 := (R4.alloc _).step T5 O5
      clear K4 R4 T5 O5 m5 p0 p1
      go_wp2_with fail
      have z0 := K5.box.c0
      have z1 := K5.box.c1
      have KD := K5.below (Below.drew (Below.refl _ _))
      have RD := R5.below (Below.drew (Below.refl _ _))
      have HRD := Lib.hid (fun (t l d : Int) (h0 : -9223372036854775808 ≤ l) (h1 : l ≤ 9223372036854775807) (w : World) (h : ChRow w w.heap.size za zn cs) => reads_any zo za zn zc cs t l d (by omega) h0 h1 w h)
      clear K5 R5
      go_region_held3 (fun w' => w'.cell? ⟨w2.heap.size, 0, none⟩ = some (.int .i64 zo) ∧ w'.cell? ⟨w2.heap.size, 1, none⟩ = some (.slice za zn zc))
        (first | exact ⟨KB.box.c0, KB.box.c1⟩ | exact ⟨KA.box.c0, KA.box.c1⟩ | exact ⟨K9.box.c0, K9.box.c1⟩ | exact ⟨K8.box.c0, K8.box.c1⟩ | exact ⟨K7a.box.c0, K7a.box.c1⟩ | exact ⟨K7.box.c0, K7.box.c1⟩ | exact ⟨K6.box.c0, K6.box.c1⟩ | exact ⟨KD.box.c0, KD.box.c1⟩)
        (first
          | (go_at_call 17; refine (next_any _ 5 (by omega) (by omega) _ K6.tape).mono ?_; rintro e w7 ⟨r, rfl, r0, r1, T7, O7⟩; have K7 := K6.step T7 O7; have R7 := R6.step T7 O7; have K7a := K7.alloc (.cells #[.int .i64 (20454 + r - 1), .int .i64 0, .int .i64 84006, .int .i64 84005, .int .i64 1] 3); have R7a := R7.alloc (.cells #[.int .i64 (20454 + r - 1), .int .i64 0, .int .i64 84006, .int .i64 84005, .int .i64 1] 3); have gw3 : IntKind.i64.wrap (20454 + r) = 20454 + r := IntWalk.i64_in _ (by omega); have gw4 : IntKind.i64.wrap (20454 + r - 1) = 20454 + r - 1 := IntWalk.i64_in _ (by omega); clear T7 O7)
          | (go_at_call 17; refine (next_any _ 2000 (by omega) (by omega) _ KD.tape).mono ?_; rintro e w6 ⟨q, rfl, q0, q1, T6, O6⟩; have K6 := KD.step T6 O6; have R6 := RD.step T6 O6; have gw1 : IntKind.i64.wrap (n + q) = n + q := IntWalk.i64_in _ (by omega); have gw2 : IntKind.i64.wrap (n + q - 1000) = n + q - 1000 := IntWalk.i64_in _ (by omega); clear T6 O6)
          | (go_at_call 15; refine (pick_any _ w7.heap.size [20454 + r - 1, 0, 84006, 84005, 1] (by simp) (by simp) (by have := K7.tape.lt; omega) _ K7a.tape (fiv w7 (20454 + r - 1) 0 84006 84005 1 3)).mono ?_; rintro e w8 ⟨pd, rfl, _, T8, O8⟩; have K8 := K7a.step T8 O8; have R8 := R7a.step T8 O8; clear T8 O8)
          | (go_at_call 11; refine (reads_any so sa sn sc scs n n 20454 (by omega) (by omega) (by omega) _ SR).mono ?_; rintro e wB ⟨rfl, hB⟩; have KB := KA.below hB; have RB := RA.below hB)
          | (go_at_call 11; refine (HRD.out n (n + q - 1000) pd (by omega) (by omega) _ K8.row).mono ?_; rintro e w9 ⟨rfl, h9⟩; have K9 := K8.below h9; have R9 := R8.below h9)
          | (go_at_call 18; refine (spoil_any _ zo za zn zc cs hn hcap _ K9.tape K9.row).mono ?_; rintro e wA ⟨so, sa, sn, sc, scs, rfl, sn4, SR, TA, OA⟩; have KA := K9.step TA OA; have RA := R9.step TA OA; clear TA OA))
      have HR := Lib.hid RB
      clear KD RD z0 z1 K6 R6 K7 R7 K7a R7a K8 R8 K9 R9 KA RA KB RB SR HRD
      go_wp2_with fail
      go_roundw
      case rel => exact ⟨i + 1, by omega, by go_num, HR⟩
      case measure => simp [Go.RowKit.intOf]; omega
    · have z0 := HK.out.box.c0
      have z1 := HK.out.box.c1
      by_cases h70 : 70 < nz
      · have ht : decide ((70 : Int) < (nz : Int)) = true := decide_eq_true (by omega)
        go_wp2_with fail
        go_ret
        exact ⟨rfl, HK.out.fin⟩
      · have ht : decide ((70 : Int) < (nz : Int)) = false := decide_eq_false (by omega)
        go_wp2_with fail
        refine (CR.out _ (HK.out.row.mono (by have := HK.out.lt; omega))).mono ?_
        rintro e w2 ⟨rfl, h2⟩
        have R2 := HK.out.below h2
        go_wp2_with fail
        refine (sane_any _).mono ?_
        rintro e w3 ⟨rfl, h3⟩
        have R3 := R2.below h3
        go_wp2_with fail
        go_ret
        exact ⟨rfl, R3.fin⟩
end Go.Proofs.Ytbbfkpkibakieaa
