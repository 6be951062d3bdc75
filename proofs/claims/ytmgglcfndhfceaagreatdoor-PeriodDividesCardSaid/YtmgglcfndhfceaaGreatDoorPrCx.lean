/-
  Layer 3 (calendar): contracts of allNamed and Holidays. Conditions: the list reads as at most MaxList valid rules (Holidays: any); the table of month lengths reads as the program's text lays it.
-/
import Derived.Test.YtmgglcfndhfceaaGreatDoorPrCs
import Derived.Deep.LoopGhost
namespace Go.Proofs.YtmgglcfndhfceaaGreatDoor
open Go Go.RowKit Go.Lib Go.Sort

theorem canon_len' (zs : List Int) : (compact (zs.mergeSort fun x y => decide (x ≤ y))).length ≤ (zs.mergeSort fun x y => decide (x ≤ y)).length := by
  rw [List.length_mergeSort]; exact canon_len zs
theorem canon_ne' (zs : List Int) : (zs.mergeSort fun x y => decide (x ≤ y)) ≠ [] → compact (zs.mergeSort fun x y => decide (x ≤ y)) ≠ [] := fun h => canon_ne zs (fun e => h (by rw [e]; simp))
theorem infoInt : (Tryz.prog.info? 3).map (fun i => (i.zero, i.size, i.bytes)) = some (some (.int .i64 0), 1, 8) := by kernel_rfl

theorem oneY_step (hs : List Cal.Hol) (y : Int) (k : Nat) (hk : k < hs.length) : Cal.oneY (hs.take (k + 1)) y = Cal.oneY (hs.take k) y ++ (if hs[k].b y then [hs[k].v y] else []) := by
  rw [List.take_succ_eq_append_getElem hk, Cal.oneY_snoc]

theorem ownK {w w' : World} {base : Nat} {e : TypeId} {size n : Nat} {v : Value} {xs : List Value} (h : w.ownsRow base e size v n xs) (hb : Below w.heap.size w w') : w'.ownsRow base e size v n xs :=
  h.kept (row := none) ⟨hb.os, hb.tape, hb.output, hb.size, fun k hk _ => hb.block k hk⟩ (Classical.em _)

theorem HolRow.more {w : World} {B B' : Nat} {a : Option Addr} {n : Nat} {hs : List Cal.Hol} (h : HolRow w B a n hs) (hB : B ≤ B') : HolRow w B' a n hs :=
  ⟨h.1, fun hn => by obtain ⟨x, ha, hx, hc⟩ := h.2 hn; exact ⟨x, ha, by omega, hc⟩⟩
theorem OwnI.base {w : World} {b b' : Nat} {v : Value} {xs : List Int} (h : OwnI w b v xs) (hb : b' ≤ b) : OwnI w b' v xs := by
  rcases h with h | ⟨g, off, cap, hv, hg, r⟩
  · exact .inl h
  · exact .inr ⟨g, off, cap, hv, by omega, r⟩
/-- What allNamed leaves. -/
def AllR (xs : List Int) (w : World) (e : Ending) (w' : World) : Prop := ∃ v', e = .returned v' ∧ OwnI w' w.heap.size v' xs ∧ Below w.heap.size w w'

set_option maxRecDepth 100000 in
set_option maxHeartbeats 4000000 in
theorem allNamed_any (a : Option Addr) (n cap : Nat) (hs : List Cal.Hol) (hn : n ≤ 1024) (y : Int) (N : Nat) (last : Int) (l0 : y + N - 1 ≤ last) (l1 : last ≤ y + N - 1) (y0 : 1970 ≤ y) (y1 : y + N ≤ 2200) (hv : hs.all Cal.Hol.ok = true) (w : World) (hr : HolRow w w.heap.size a n hs) (hl : LgIs w) :
    Calls Tryz.prog 68 #[.slice a n cap, .int .i64 y, .int .i64 last] w (AllR (canon (Cal.allY hs y N)) w) := by
  obtain ⟨i0, hi, hz0, hz1, hz2⟩ := info_parts infoInt
  have HI := Lib.hid (show ∃ i0 : TypeInfo, Tryz.prog.info? 3 = some i0 ∧ i0.zero = some (.int .i64 0) ∧ i0.size = 1 ∧ i0.bytes = 8 from ⟨i0, hi, hz0, hz1, hz2⟩)
  clear hi hz0 hz1 hz2 i0
  have HV := Lib.hid hv
  have HR := Lib.hid hr
  have hlen : hs.length = n := hr.1
  have HLN := Lib.hid hlen
  clear hv hr hlen
  go_enter Tryz.func68, Tryz.ntmps68
  go_wp2
  go_loopw [7, 8] (fun x z wr => ∃ i : Nat, i ≤ N ∧ z = .int .i64 (y + i) ∧ wr.ownsRow w.heap.size 3 1 x (Cal.allY hs y i).length ((Cal.allY hs y i).map (Value.int .i64)) ∧ Below w.heap.size w wr) (fun _ z _ => (y + N - intOf z).toNat)
  case atStart => exact ⟨0, by omega, by simp, World.ownsRow_nil _ _ _ _, Below.refl _ _⟩
  case round =>
    obtain ⟨i, hi, rfl, hown, hB⟩ := hrel
    by_cases hlt : i < N
    · have HO := Lib.hid hown
      have hd0 : decide (y + (i : Int) ≤ last) = true := decide_eq_true (by omega)
      clear hown
      go_wp2_with fail
      obtain ⟨wo, rfl⟩ : ∃ wo : World, wo = wr := ⟨_, rfl⟩
      go_loopw [7, 21] (fun x z wr => ∃ k : Nat, k ≤ n ∧ z = .int .i64 k ∧ wr.ownsRow w.heap.size 3 1 x (Cal.allY hs y i ++ Cal.oneY (hs.take k) (y + i)).length ((Cal.allY hs y i ++ Cal.oneY (hs.take k) (y + i)).map (Value.int .i64)) ∧ Below w.heap.size w wr) (fun _ z _ => n - (intOf z).toNat)
      case atStart => exact ⟨0, by omega, rfl, by rw [show hs.take 0 = [] from rfl, show Cal.oneY [] (y + i) = [] from rfl, List.append_nil]; exact HO.out, hB⟩
      case round =>
        clear hB HO
        obtain ⟨k, hk, rfl, hown, hB⟩ := hrel
        by_cases hlt2 : k < n
        · obtain ⟨_, hcs⟩ := HR.out.below hB
          obtain ⟨x, hx0, hx, hc⟩ := hcs (by omega)
          subst hx0
          have hk' : k < hs.length := by have := HLN.out; omega
          obtain ⟨c0, c1, c2, c3, c4, c5⟩ := hc k hk'
          have S := Lib.hid (oneY_step hs (y + i) k hk')
          have hv1 := (List.all_eq_true.mp HV.out) hs[k] (List.getElem_mem hk')
          have HG := Lib.hid (List.getElem_mem hk')
          generalize hs[k] = h at c0 c1 c2 c3 c4 c5 S hv1
          have HV1 := Lib.hid hv1
          have hb : (Cal.allY hs y i ++ Cal.oneY (hs.take k) (y + i)).length ≤ 300000 := by
            have a1 := Cal.allY_len hs y i
            have a2 := Cal.oneY_len (hs.take k) (y + i)
            have a3 : (hs.take k).length ≤ k := List.length_take_le _ _
            have a4 := HLN.out
            have a5 : i * hs.length ≤ 230 * 1024 := Nat.mul_le_mul (by omega) (by omega)
            rw [List.length_append]; omega
          have hl1 := hl.below hB
          have HO := Lib.hid hown
          clear hc hcs hv1 hown
          rcases hbb : h.b (y + i) with _ | _
          · have HB := Lib.hid hbb
            have C := Lib.hid (named_any h (y + i) HV1.out (by omega) (by omega))
            rw [hbb] at C
            clear hbb hb
            go_wp2_with fail
            refine (C.out _ (hl1.below (Below.alloc (Below.refl _ _) (Nat.le_refl _) _))).mono ?_
            rintro e w1 ⟨rfl, hw1⟩
            have hB1 : Below w.heap.size w w1 := hB.trans (((Below.alloc (Below.refl _ _) (Nat.le_refl _) _).trans (hw1.mono (by simp))).mono hB.size)
            have HO1 := Lib.hid (ownK (HO.out.alloc (.cells #[.int .i64 h.kind, .int .i64 h.month, .int .i64 h.day, .int .i64 h.wday, .int .i64 h.off, .bool h.moved] 53)) hw1)
            clear hw1 HO
            go_wp2_with fail
            go_roundw
            case rel =>
              exact ⟨k + 1, by omega, by go_num, by rw [S.out, HB.out, if_neg (by simp), List.append_nil]; exact HO1.out, hB1⟩
            case measure => simp [intOf]; omega
          · have HB := Lib.hid hbb
            have C := Lib.hid (named_any h (y + i) HV1.out (by omega) (by omega))
            rw [hbb] at C
            clear hbb
            go_wp2_with fail
            refine (C.out _ (hl1.below (Below.alloc (Below.refl _ _) (Nat.le_refl _) _))).mono ?_
            rintro e w1 ⟨rfl, hw1⟩
            have hB1 : Below w.heap.size w w1 := hB.trans (((Below.alloc (Below.refl _ _) (Nat.le_refl _) _).trans (hw1.mono (by simp))).mono hB.size)
            have hO1 := ownK (HO.out.alloc (.cells #[.int .i64 h.kind, .int .i64 h.month, .int .i64 h.day, .int .i64 h.wday, .int .i64 h.off, .bool h.moved] 53)) hw1
            clear hw1 HO
            obtain ⟨i0, hi0, hz0, hz1, hz2⟩ := HI.out
            have sz := hB1.size
            have HO1 := Lib.hid hO1
            have HB1 := Lib.hid hB1
            clear hO1 hB1
            go_wp2_with (at_builtin; refine wpList_append_own _ rfl _ _ 22 rfl w.heap.size 3 i0 (.int .i64 0) 1 8 Tryz.underlying22 hi0 hz0 hz1 hz2 rfl (by decide) _ _ _ rfl (HO1.out.alloc _) ⟨w1.heap.size, 0, none⟩ 1 1 [.int .i64 (h.v (y + i))] rfl rfl ?c1 ?c2 ?c3 ?c4 ?c5 ?_)
            case c1 =>
              intro j u hu
              rcases j with _ | j
              · have e : u = .int .i64 (h.v (y + i)) := by simpa using hu.symm
                subst e; go_simp
              · simp at hu
            case c2 => intro u hu; rw [List.mem_singleton] at hu; subst hu; rfl
            case c3 => unfold maxLen; omega
            case c4 => omega
            case c5 => simp; omega
            intro v2 w2 hown2 hgrow2 _
            have hl2 := HO1.out.lt
            have hB2 : Below w.heap.size w w2 := (HB1.out.alloc sz (.cells #[.int .i64 (h.v (y + i))] 3)).grown hgrow2 (by simp; omega) (fun g hg => (hl2 g hg).1)
            have HO2 := Lib.hid hown2
            clear hown2 hgrow2 hl2 hz0 hz1 hz2 hi0
            go_wp2_with fail
            go_roundw
            case rel =>
              exact ⟨k + 1, by omega, by go_num, by rw [S.out, HB.out, if_pos rfl, ← List.append_assoc]; have := HO2.out; simpa [Nat.add_assoc] using this, hB2⟩
            case measure => simp [intOf]; omega
        · obtain rfl : k = n := by omega
          have HO := Lib.hid hown
          have E := Lib.hid (show Cal.allY hs y i ++ Cal.oneY (hs.take k) (y + i) = Cal.allY hs y (i + 1) by
            rw [List.take_of_length_le (by have := HLN.out; omega)]; rfl)
          clear hown
          go_wp2_with fail
          go_roundw
          case rel => exact ⟨i + 1, by omega, by push_cast; congr 1; omega, by rw [← E.out]; exact HO.out, hB⟩
          case measure => simp [intOf]; omega
    · obtain rfl : i = N := by omega
      have HO := Lib.hid hown
      have sz := hB.size
      have hb : (Cal.allY hs y i).length ≤ 300000 := by
        have a1 := Cal.allY_len hs y i
        have a4 := HLN.out
        have a5 : i * hs.length ≤ 230 * 1024 := Nat.mul_le_mul (by omega) (by omega)
        omega
      clear hown
      go_wp2_with fail
      refine (sort_own _ _ _ _ _ rfl HO.out sz (by omega)).mono ?_
      rintro e w1 ⟨rfl, hB1, hO1⟩
      have hB2 := hB.trans hB1
      have sz1 := hB2.size
      have HO1 := Lib.hid hO1
      clear hO1 HO hB1 hB
      go_wp2_with fail
      refine (compact_own _ _ _ _ _ (by simp) HO1.out sz1 (canon_len' _) (canon_ne' _)).mono ?_
      rintro e w2 ⟨v', rfl, hI, hB3⟩
      have hI' := Lib.hid hI
      clear hI
      go_wp2_with fail
      go_ret
      exact ⟨_, rfl, hI'.out, hB2.trans hB3⟩

/-- What Holidays leaves: a slice and no error, or an error and nil. -/
def HolR (xs : List Int) (err : Int) (w : World) (e : Ending) (w' : World) : Prop := ∃ v', e = .returned (.tuple #[v', .int .i64 err]) ∧ OwnI w' w.heap.size v' xs ∧ Below w.heap.size w w'
theorem HolR.of {xs : List Int} {err : Int} {w w' : World} {e : Ending} {v : Value} (he : e = .returned (.tuple #[v, .int .i64 err])) (h : OwnI w' w.heap.size v xs) (hb : Below w.heap.size w w') : HolR xs err w e w' := ⟨v, he, h, hb⟩

end Go.Proofs.YtmgglcfndhfceaaGreatDoor
