/-
  The reference of layer 3 (calendar): the contract of Holidays: the days that the rules name, ascending and each one once. Condition: the list reads as rules.
-/
import Derived.Test.YtfoocingingpcaaDoorPrRn
import Derived.Test.YtfoocingingpcaaDoorPrCx
import Derived.Laws.CopyOwn
namespace Go.Proofs.YtfoocingingpcaaDoor
open Go Go.RowKit Go.Lib Go.Sort

theorem ownI_own {w : World} {base : Nat} {t : TypeId} {v : Value} {xs : List Int} (h : w.ownsRow base t 1 v xs.length (xs.map (Value.int .i64))) : OwnI w base v xs := by
  rcases h.2 with ⟨rfl, h0⟩ | ⟨g, cap, cur, rfl, hb, hg, hnc, hcm, hcs, htk⟩
  · have : xs = [] := List.length_eq_zero_iff.mp h0
    subst this; exact .inl ⟨rfl, _, _, rfl⟩
  · refine .inr ⟨g, 0, cap, rfl, hb, hnc, hcm, fun j hj => ?_⟩
    have c := h.cellAt j (by omega)
    rw [Nat.zero_add, c, List.getElem?_map, List.getElem?_eq_getElem hj]; rfl
theorem own_read {w : World} {base : Nat} {t : TypeId} {v : Value} {xs : List Int} (h : w.ownsRow base t 1 v xs.length (xs.map (Value.int .i64))) :
    ∃ A cap, v = .slice A xs.length cap ∧ ∀ j (hj : j < xs.length), ∃ g, A = some ⟨g, 0, none⟩ ∧ w.cell? ⟨g, j, none⟩ = some (.int .i64 xs[j]) := by
  rcases h.2 with ⟨rfl, h0⟩ | ⟨g, cap, cur, rfl, hb, hg, hnc, hcm, hcs, htk⟩
  · exact ⟨_, _, by rw [h0], fun j hj => by omega⟩
  · refine ⟨_, _, rfl, fun j hj => ⟨g, rfl, ?_⟩⟩
    have c := h.cellAt j (by omega)
    rw [c, List.getElem?_map, List.getElem?_eq_getElem hj]; rfl
theorem infoSz : (Tryd.prog.info? 3).map (·.size) = some 1 := by kernel_rfl
/-- Strictly ascending, with the members of a list. -/
def AscOf (xs zs : List Int) : Prop := xs.Pairwise (· < ·) ∧ ∀ v, v ∈ xs ↔ v ∈ zs
theorem AscOf.canon {xs zs : List Int} (h : AscOf xs zs) : xs = canon zs := Cal.asc_ext _ _ h.1 (canon_asc zs) fun v => (h.2 v).trans (mem_canon zs v).symm
theorem take_lt {xs : List Int} {d : Int} {a : Nat} (h : ∀ j (hj : j < xs.length), j < a → xs[j] < d) : ∀ v ∈ xs.take a, v < d := by
  intro v hv
  obtain ⟨j, hj, rfl⟩ := List.mem_iff_getElem.mp hv
  rw [List.getElem_take]
  rw [List.length_take] at hj
  exact h j (by omega) (by omega)
theorem ins_props (xs : List Int) (d : Int) (a : Nat) (ts hs : List Cal.Hol) (y : Int) (k : Nat) (hx : AscOf xs (Cal.oneY ts y)) (hsn : Cal.oneY (hs.take (k + 1)) y = Cal.oneY ts y ++ [d]) (hlt : ∀ j (hj : j < xs.length), j < a → xs[j] < d) (hge : ∀ (h : a < xs.length), d < xs[a]) (ha : a ≤ xs.length) :
    AscOf (xs.take a ++ d :: xs.drop a) (Cal.oneY (hs.take (k + 1)) y) := by
  have e := List.take_append_drop a xs
  have p := hx.1
  rw [← e] at p
  obtain ⟨p1, p2, p3⟩ := List.pairwise_append.mp p
  have t := take_lt hlt
  have g : ∀ v ∈ xs.drop a, d < v := by
    intro v hv
    by_cases h : a < xs.length
    · rw [List.drop_eq_getElem_cons h, List.mem_cons] at hv
      rw [List.drop_eq_getElem_cons h, List.pairwise_cons] at p2
      rcases hv with rfl | hv
      · exact hge h
      · exact Int.lt_trans (hge h) (p2.1 v hv)
    · rw [List.drop_eq_nil_of_le (by omega)] at hv; cases hv
  refine ⟨List.pairwise_append.mpr ⟨p1, List.pairwise_cons.mpr ⟨g, p2⟩, fun x hx' v hv => ?_⟩, fun v => ?_⟩
  · rcases List.mem_cons.mp hv with rfl | hv
    · exact t x hx'
    · exact p3 x hx' v hv
  · have em : v ∈ xs ↔ v ∈ xs.take a ∨ v ∈ xs.drop a := by conv => lhs; rw [← e, List.mem_append]
    rw [hsn]
    simp only [List.mem_append, List.mem_cons, List.not_mem_nil, or_false]
    rw [← hx.2 v, em]
    constructor
    · rintro (h | h | h)
      · exact .inl (.inl h)
      · exact .inr h
      · exact .inl (.inr h)
    · rintro ((h | h) | h)
      · exact .inl h
      · exact .inr (.inr h)
      · exact .inr (.inl h)
theorem dup_props (xs : List Int) (d : Int) (a : Nat) (ts hs : List Cal.Hol) (y : Int) (k : Nat) (hx : AscOf xs (Cal.oneY ts y)) (hsn : Cal.oneY (hs.take (k + 1)) y = Cal.oneY ts y ++ [d]) (ha : a < xs.length) (hd : xs[a] = d) : AscOf xs (Cal.oneY (hs.take (k + 1)) y) := by
  refine ⟨hx.1, fun v => ?_⟩
  rw [hsn, List.mem_append, List.mem_singleton, ← hx.2 v]
  constructor
  · exact .inl
  · rintro (h | h)
    · exact h
    · rw [h, ← hd]; exact List.getElem_mem ha
theorem ins_list (xs : List Int) (a : Nat) (d : Int) (ha : a ≤ xs.length) :
    ((((xs.map (Value.int .i64) ++ [Value.int .i64 0]).take (a + 1)) ++ (xs.drop a).map (Value.int .i64)).set a (Value.int .i64 d)) = (xs.take a ++ d :: xs.drop a).map (Value.int .i64) := by
  have hla : (xs.take a).length = a := by rw [List.length_take]; omega
  have e : ∃ z, (xs.map (Value.int .i64) ++ [Value.int .i64 0]).take (a + 1) = (xs.take a).map (Value.int .i64) ++ [z] := by
    have hlen : a < (xs.map (Value.int .i64) ++ [Value.int .i64 0]).length := by simp; omega
    refine ⟨(xs.map (Value.int .i64) ++ [Value.int .i64 0])[a], ?_⟩
    rw [List.take_succ_eq_append_getElem hlen, List.take_append_of_le_length (by simpa using ha), List.map_take]
  obtain ⟨z, e⟩ := e
  have hX : ((xs.take a).map (Value.int .i64)).length = a := by rw [List.length_map, hla]
  rw [e, List.append_assoc, List.set_append_right _ _ (by omega), hX, Nat.sub_self, List.map_append, List.map_cons]
  rfl
/-- What the copy and the store leave: the row with the day put in at its place. -/
theorem ins_own (xs : List Int) (a : Nat) (d : Int) (w5 : World) (base g cap : Nat) (cur : Array Value) (t : TypeId) (hb : base ≤ g) (hnc : xs.length + 1 ≤ cap) (hcm : cap ≤ maxLen) (hcs : cur.size = cap) (htk : cur.toList.take (xs.length + 1) = xs.map (Value.int .i64) ++ [Value.int .i64 0]) (ha : a ≤ xs.length)
    (hg : w5.heap[g]? = some (.cells (splice cur.toList (a + 1) ((xs.drop a).map (Value.int .i64))).toArray t (0, 0))) :
    (w5.setCell ⟨g, a, none⟩ (.int .i64 d)).ownsRow base t 1 (.slice (some ⟨g, 0, none⟩) (xs.length + 1) cap) (xs.take a ++ d :: xs.drop a).length ((xs.take a ++ d :: xs.drop a).map (Value.int .i64)) ∧ (∃ u, w5.cell? ⟨g, a, none⟩ = some u) ∧ w5.frozen? ⟨g, a, none⟩ = false := by
  have hL : (splice cur.toList (a + 1) ((xs.drop a).map (Value.int .i64))).take (xs.length + 1) = ((xs.map (Value.int .i64) ++ [Value.int .i64 0]).take (a + 1)) ++ (xs.drop a).map (Value.int .i64) := by
    unfold splice
    have h1 : (cur.toList.take (a + 1)).length = a + 1 := by rw [List.length_take, Array.length_toList]; omega
    rw [List.take_append, h1, List.take_of_length_le (by omega), List.take_append_of_le_length (by first | (simp; done) | (simp; omega)), ← htk, List.take_take, show min (a + 1) (xs.length + 1) = a + 1 by omega]
    congr 1
    rw [List.take_of_length_le (by first | (simp; done) | (simp; omega))]
  have own : w5.ownsRow base t 1 (.slice (some ⟨g, 0, none⟩) (xs.length + 1) cap) (xs.length + 1) (((xs.map (Value.int .i64) ++ [Value.int .i64 0]).take (a + 1)) ++ (xs.drop a).map (Value.int .i64)) := by
    refine ⟨?_, .inr ⟨g, cap, _, rfl, hb, hg, hnc, hcm, ?_, ?_⟩⟩
    · rw [← hL, List.length_take]; unfold splice; simp; omega
    · unfold splice; simp; omega
    · rw [Nat.mul_one]; exact hL
  have e : (xs.take a ++ d :: xs.drop a).length = xs.length + 1 := by simp; omega
  refine ⟨?_, ?_, own.frozenAt a⟩
  · have s := (own.stored a (.int .i64 d)).1
    rw [ins_list xs a d ha] at s
    rw [e]; exact s
  · have c := own.cellAt a (by omega)
    have hl2 : a < (((xs.map (Value.int .i64) ++ [Value.int .i64 0]).take (a + 1)) ++ (xs.drop a).map (Value.int .i64)).length := by rw [own.1]; omega
    exact ⟨_, by rw [c, List.getElem?_eq_getElem hl2]⟩

set_option maxRecDepth 100000 in
set_option maxHeartbeats 8000000 in
theorem rhol_ok (A : Option Addr) (n cp : Nat) (hs : List Cal.Hol) (hn : n ≤ 1024) (y : Int) (y0 : 1970 ≤ y) (y1 : y ≤ 2199) (hv : hs.all Cal.Hol.ok = true) (w : World) (hr : HolRow w w.heap.size A n hs) :
    Calls Tryd.prog 14 #[.slice A n cp, .int .i64 y] w (HolR (canon (Cal.oneY hs y)) 0 w) := by
  have C := Lib.hid (rvalidL_any A n cp hs hn w hr)
  rw [show vlE hs = 0 by unfold vlE; rw [hv]; rfl] at C
  have HR := Lib.hid hr
  have HV := Lib.hid hv
  have HLN := Lib.hid hr.1
  obtain ⟨i0, hi, hz0, hz1, hz2⟩ := info_parts infoInt
  have HI := Lib.hid (And.intro hi (And.intro hz0 (And.intro hz1 hz2)))
  clear hv hr hi hz0 hz1 hz2
  go_enter Tryd.func14, Tryd.ntmps14
  go_wp2_with fail
  refine C.out.mono ?_
  rintro e w1 ⟨rfl, hw1⟩
  have HW1 := Lib.hid hw1
  clear hw1 C
  go_wp2_with (go_at_call 50; (with_reducible refine (rInYears_yes _ y0 y1 _).mono ?_); rintro e w' ⟨rfl, rfl⟩)
  go_loopw [7, 8] (fun x z wr => ∃ (k : Nat) (xs : List Int), k ≤ n ∧ z = .int .i64 k ∧ wr.ownsRow w.heap.size 3 1 x xs.length (xs.map (Value.int .i64)) ∧ Hid (AscOf xs (Cal.oneY (hs.take k) y)) ∧ Below w.heap.size w wr) (fun _ z _ => n - (intOf z).toNat)
  case atStart => exact ⟨0, [], by omega, rfl, World.ownsRow_nil _ _ _ _, Lib.hid ⟨by simp, fun v => by simp [Cal.oneY]⟩, HW1.out⟩
  case round =>
    clear HW1
    obtain ⟨k, xs, hk, rfl, hown, HXS, hB⟩ := hrel
    have HO := Lib.hid hown
    clear hown
    by_cases hlt : k < n
    · have hd0 : decide ((k : Int) < (n : Int)) = true := decide_eq_true (by omega)
      obtain ⟨_, hcs⟩ := HR.out.below hB
      obtain ⟨x, hx0, hx, hc⟩ := hcs (by omega)
      subst hx0
      have hk' : k < hs.length := by have := HLN.out; omega
      obtain ⟨c0, c1, c2, c3, c4, c5⟩ := hc k hk'
      have S := Lib.hid (oneY_step hs y k hk')
      have hv1 := (List.all_eq_true.mp HV.out) hs[k] (List.getElem_mem hk')
      have hxl : xs.length ≤ 1024 := by
        have e := HXS.out.canon
        have l1 := canon_len (Cal.oneY (hs.take k) y)
        have l2 := Cal.oneY_len (hs.take k) y
        have l3 : (hs.take k).length ≤ k := List.length_take_le _ _
        rw [← e] at l1; omega
      generalize hs[k] = h at c0 c1 c2 c3 c4 c5 S hv1
      have HV1 := Lib.hid hv1
      clear hc hcs hv1
      rcases hbb : h.b y with _ | _
      · have HB := Lib.hid hbb
        have C := Lib.hid (rnamed_any h y HV1.out y0 y1)
        clear hbb
        go_wp2_with fail
        refine (C.out _).mono ?_
        rintro e w2 ⟨v, rfl, _, hw2⟩
        rw [HB.out]
        have hB2 := hB.trans (hw2.mono hB.size)
        have HO2 := Lib.hid (ownK HO.out hw2)
        clear hw2 C HO
        go_wp2_with fail
        go_roundw
        case rel => exact ⟨k + 1, xs, by omega, by go_num, HO2.out, Lib.hid (by rw [S.out, HB.out, if_neg (by simp), List.append_nil]; exact HXS.out), hB2⟩
        case measure => simp [intOf]; omega
      · have HB := Lib.hid hbb
        have C := Lib.hid (rnamed_any h y HV1.out y0 y1)
        clear hbb
        go_wp2_with fail
        refine (C.out _).mono ?_
        rintro e w2 ⟨v, rfl, hvv, hw2⟩
        obtain rfl := hvv HB.out
        rw [HB.out]
        have hB2 := Lib.hid (hB.trans (hw2.mono hB.size))
        have HO2 := Lib.hid (ownK HO.out hw2)
        have SNOC : Hid (Cal.oneY (hs.take (k + 1)) y = Cal.oneY (hs.take k) y ++ [h.v y]) := Lib.hid (by rw [S.out, HB.out, if_pos rfl])
        generalize h.v y = d at SNOC
        clear hw2 C HO hvv S hB c0 c1 c2 c3 c4 c5
        go_wp2_with fail
        obtain ⟨A2, cap2, hx2, hcell⟩ := own_read HO2.out
        subst hx2
        have HCE := Lib.hid hcell
        clear hcell
        go_loop [11] (fun z => ∃ a : Nat, a ≤ xs.length ∧ z = .int .i64 a ∧ Hid (∀ j (hj : j < xs.length), j < a → xs[j] < d)) (fun z => xs.length - (intOf z).toNat)
        case atStart => exact ⟨0, by omega, rfl, Lib.hid (fun j _ h => absurd h (by omega))⟩
        case round =>
          obtain ⟨a, ha, rfl, HLT⟩ := hrel
          by_cases hal : a < xs.length
          · have hal0 : decide ((a : Int) < (xs.length : Int)) = true := decide_eq_true (by omega)
            obtain ⟨g0, hA2, hca⟩ := HCE.out a hal
            by_cases hlt2 : xs[a] < d
            · have HL2 := Lib.hid (show ∀ j (hj : j < xs.length), j = a → xs[j] < d from fun j hj e => by subst e; exact hlt2)
              have hdl : decide (xs[a] < d) = true := decide_eq_true hlt2
              generalize xs[a] = ea at hca hlt2 hdl
              subst hA2
              go_wp2_with fail
              go_round
              case rel => exact ⟨a + 1, by omega, by go_num, Lib.hid (fun j hj hja => by
                by_cases e : j = a
                · exact HL2.out j hj e
                · exact HLT.out j hj (by omega))⟩
              case measure => simp [intOf]; omega
            · have hdl : decide (xs[a] < d) = false := decide_eq_false hlt2
              by_cases heq : xs[a] = d
              · have hde : (xs[a] == d) = true := by simp [heq]
                have HEQ := Lib.hid heq
                have HAL := Lib.hid hal
                clear heq hlt2
                have HDP := Lib.hid (dup_props xs d a (hs.take k) hs y k HXS.out SNOC.out hal HEQ.out)
                clear HEQ
                generalize xs[a] = ea at hca hdl hde
                subst hA2
                go_wp2_with fail
                go_roundw
                case rel => exact ⟨k + 1, xs, by omega, by go_num, HO2.out, HDP, hB2.out⟩
                case measure => simp [intOf]; omega
              · have hde : (xs[a] == d) = false := by simp [heq]
                have HGE : Hid (∀ (h : a < xs.length), d < xs[a]) := Lib.hid (fun h => by omega)
                clear heq hlt2
                generalize xs[a] = ea at hca hdl hde
                subst hA2
                have HOW1 := Lib.hid (HO2.out.alloc (.cells #[.int .i64 0] 3))
                go_wp2_with (at_builtin; refine wpList_append_own _ rfl _ _ 26 rfl w.heap.size 3 i0 (.int .i64 0) 1 8 Tryd.underlying26 HI.out.1 HI.out.2.1 HI.out.2.2.1 HI.out.2.2.2 rfl (by decide) _ _ _ rfl (HOW1.out) ⟨w2.heap.size, 0, none⟩ 1 1 [.int .i64 0] rfl rfl ?c1 ?c2 ?c3 ?c4 ?c5 ?_)
                case c2 => rfl
                case c3 => unfold maxLen; omega
                case c4 => omega
                case c5 => have := hB2.out.size; simp; omega
                intro v2 w4 hown2 hgrow2 _
                have sz2 := hB2.out.size
                have HB4 := Lib.hid (Below.grown (hB2.out.alloc sz2 (.cells #[.int .i64 0] 3)) hgrow2 (by simp; omega) (fun g hg => (HOW1.out.lt g hg).1))
                rcases hown2.2 with ⟨_, h0⟩ | ⟨g, cap, cur, hv2, hbase, hg, hnc, hcm, hcs, htk⟩
                · omega
                rw [Nat.mul_one] at htk hcs
                subst hv2
                have HG := Lib.hid (show w4.heap[g]? = some (.cells cur.toList.toArray 3 (0, 0)) from hg)
                have HCM := Lib.hid hcm
                have HTK := Lib.hid htk
                have hcm' : cap ≤ 9223372036854775807 := by unfold maxLen at hcm; omega
                have HOWN := Lib.hid hown2
                obtain ⟨cs, hcse⟩ : ∃ cs, (xs.drop a).map (Value.int .i64) = cs := ⟨_, rfl⟩
                have HCS := Lib.hid hcse
                have hcsl : cs.length = xs.length - a := by rw [← hcse, List.length_map, List.length_drop]
                have H1 : Hid (cs.length = Nat.min (xs.length + 1 - a) (xs.length + 1 - (a + 1))) := Lib.hid (by rw [hcsl, show Nat.min (xs.length + 1 - a) (xs.length + 1 - (a + 1)) = xs.length + 1 - (a + 1) from Nat.min_eq_right (by omega)]; omega)
                have H3 : Hid (a + 1 + cs.length ≤ cur.toList.length) := Lib.hid (by have e : cur.toList.length = cur.size := Array.length_toList; omega)
                have H4 : Hid (∀ v ∈ cs, v.oneCell' = true) := Lib.hid (by intro v hv; rw [← hcse] at hv; obtain ⟨z, _, rfl⟩ := List.mem_map.1 hv; rfl)
                have HCL := Lib.hid hcsl
                clear hcse hcsl
                have hwr : IntKind.i64.wrap ((a : Int) + 1) = (a : Int) + 1 := IntWalk.i64_in _ (by omega)
                have hp0 : (0 : Int) ≤ (a : Int) + 1 := by omega
                have hp1 : (a : Int) + 1 ≤ (xs.length : Int) + 1 := by omega
                have hp2 : ((a : Int) + 1).toNat = a + 1 := by omega
                have hp3 : (a : Int) ≤ (xs.length : Int) + 1 := by omega
                have hcn : ¬ cap = a := by omega
                clear hown2 hgrow2 hg hcm htk HOW1 HO2
                go_wp2_with fail
                have hcn1 : ¬ cap = a + 1 := by omega
                have H2 : Hid (0 < cs.length → (some (⟨g, a + 1, none⟩ : Addr)) = some ⟨g, a + 1, none⟩ ∧ ∃ ad, (some (⟨g, a, none⟩ : Addr)) = some ad ∧ ∀ j v, cs[j]? = some v → w4.cell? (ad.add j) = some v) := Lib.hid (fun _ => ⟨rfl, _, rfl, fun j v hjv => by
                  rw [← HCS.out, List.getElem?_map] at hjv
                  have hj : j < (xs.drop a).length := by
                    rcases Nat.lt_or_ge j (xs.drop a).length with h | h
                    · exact h
                    · rw [List.getElem?_eq_none h] at hjv; cases hjv
                  rw [List.getElem?_eq_getElem hj, List.getElem_drop] at hjv
                  rw [List.length_drop] at hj
                  have c := HOWN.out.cellAt (a + j) (by omega)
                  rw [List.getElem?_append_left (by simp; omega), List.getElem?_map, List.getElem?_eq_getElem (by omega)] at c
                  rw [show (⟨g, a, none⟩ : Addr).add j = ⟨g, a + j, none⟩ by unfold Addr.add; split <;> simp_all, c]
                  exact hjv⟩)
                go_region_law ((refine step_copy_splice rfl (.tmp 69) (.tmp 72) 26 26 rfl 3 Tryd.underlying26 infoSz (some ⟨g, a + 1, none⟩) (some ⟨g, a, none⟩) (xs.length + 1 - (a + 1)) (cap - (a + 1)) (xs.length + 1 - a) (cap - a) (by simp [Act.eval, Act.put]) (by simp [Act.eval, Act.put]) g (a + 1) cur.toList 3 HG.out cs H1.out H2.out H3.out H4.out w.heap.size w HB4.out.drew hbase ?_; intro w5 hg5 hb5))
                have HOW := Lib.hid (ins_own xs a d w5 w.heap.size g cap cur 3 hbase hnc HCM.out hcs HTK.out ha (by rw [HCS.out]; exact hg5.out))
                obtain ⟨u5, hc5⟩ := HOW.out.2.1
                have hf5 := HOW.out.2.2
                have HB5 := Lib.hid hb5
                clear hb5
                clear HG H1 H2 H3 H4 HB4
                go_wp2_with fail
                go_roundw
                case rel => exact ⟨k + 1, xs.take a ++ d :: xs.drop a, by omega, by go_num, HOW.out.1, Lib.hid (ins_props xs d a (hs.take k) hs y k HXS.out SNOC.out HLT.out HGE.out ha), HB5.out.setCell hbase _⟩
                case measure => simp [intOf]; omega
          · obtain rfl : a = xs.length := by omega
            have HGE : Hid (∀ (h : xs.length < xs.length), d < xs[xs.length]) := Lib.hid (fun h => absurd h (Nat.lt_irrefl _))
            have HOW1 := Lib.hid (HO2.out.alloc (.cells #[.int .i64 0] 3))
            go_wp2_with (at_builtin; refine wpList_append_own _ rfl _ _ 26 rfl w.heap.size 3 i0 (.int .i64 0) 1 8 Tryd.underlying26 HI.out.1 HI.out.2.1 HI.out.2.2.1 HI.out.2.2.2 rfl (by decide) _ _ _ rfl (HOW1.out) ⟨w2.heap.size, 0, none⟩ 1 1 [.int .i64 0] rfl rfl ?c1 ?c2 ?c3 ?c4 ?c5 ?_)
            case c2 => rfl
            case c3 => unfold maxLen; omega
            case c4 => omega
            case c5 => have := hB2.out.size; simp; omega
            intro v2 w4 hown2 hgrow2 _
            have sz2 := hB2.out.size
            have HB4 := Lib.hid (Below.grown (hB2.out.alloc sz2 (.cells #[.int .i64 0] 3)) hgrow2 (by simp; omega) (fun g hg => (HOW1.out.lt g hg).1))
            rcases hown2.2 with ⟨_, h0⟩ | ⟨g, cap, cur, hv2, hbase, hg, hnc, hcm, hcs, htk⟩
            · omega
            rw [Nat.mul_one] at htk hcs
            subst hv2
            have HG := Lib.hid (show w4.heap[g]? = some (.cells cur.toList.toArray 3 (0, 0)) from hg)
            have HCM := Lib.hid hcm
            have HTK := Lib.hid htk
            have hcm' : cap ≤ 9223372036854775807 := by unfold maxLen at hcm; omega
            have HOWN := Lib.hid hown2
            obtain ⟨cs, hcse⟩ : ∃ cs, (xs.drop xs.length).map (Value.int .i64) = cs := ⟨_, rfl⟩
            have HCS := Lib.hid hcse
            have hcsl : cs.length = xs.length - xs.length := by rw [← hcse, List.length_map, List.length_drop]
            have H1 : Hid (cs.length = Nat.min (xs.length + 1 - xs.length) (xs.length + 1 - (xs.length + 1))) := Lib.hid (by rw [hcsl, show Nat.min (xs.length + 1 - xs.length) (xs.length + 1 - (xs.length + 1)) = xs.length + 1 - (xs.length + 1) from Nat.min_eq_right (by omega)]; omega)
            have H3 : Hid (xs.length + 1 + cs.length ≤ cur.toList.length) := Lib.hid (by have e : cur.toList.length = cur.size := Array.length_toList; omega)
            have H4 : Hid (∀ v ∈ cs, v.oneCell' = true) := Lib.hid (by intro v hv; rw [← hcse] at hv; obtain ⟨z, _, rfl⟩ := List.mem_map.1 hv; rfl)
            have HCL := Lib.hid hcsl
            clear hcse hcsl
            have hwr : IntKind.i64.wrap ((xs.length : Int) + 1) = (xs.length : Int) + 1 := IntWalk.i64_in _ (by omega)
            have hp0 : (0 : Int) ≤ (xs.length : Int) + 1 := by omega
            have hp1 : (xs.length : Int) + 1 ≤ (xs.length : Int) + 1 := by omega
            have hp2 : ((xs.length : Int) + 1).toNat = xs.length + 1 := by omega
            have hp3 : (xs.length : Int) ≤ (xs.length : Int) + 1 := by omega
            have hcn : ¬ cap = xs.length := by omega
            clear hown2 hgrow2 hg hcm htk HOW1 HO2
            go_wp2_with fail
            have H2 : ∀ dp : Option Addr, Hid (0 < cs.length → dp = some ⟨g, xs.length + 1, none⟩ ∧ ∃ ad, (some (⟨g, xs.length, none⟩ : Addr)) = some ad ∧ ∀ j v, cs[j]? = some v → w4.cell? (ad.add j) = some v) := fun dp => Lib.hid (fun h => by rw [HCL.out] at h; omega)
            by_cases hca1 : cap = xs.length + 1
            · subst hca1
              go_region_law ((refine step_copy_splice rfl (.tmp 69) (.tmp 72) 26 26 rfl 3 Tryd.underlying26 infoSz (some ⟨g, 0, none⟩) (some ⟨g, xs.length, none⟩) (xs.length + 1 - (xs.length + 1)) (xs.length + 1 - (xs.length + 1)) (xs.length + 1 - xs.length) (xs.length + 1 - xs.length) (by simp [Act.eval, Act.put]) (by simp [Act.eval, Act.put]) g (xs.length + 1) cur.toList 3 HG.out cs H1.out (H2 _).out H3.out H4.out w.heap.size w HB4.out.drew hbase ?_; intro w5 hg5 hb5))
              have HOW := Lib.hid (ins_own xs xs.length d w5 w.heap.size g (xs.length + 1) cur 3 hbase hnc HCM.out hcs HTK.out ha (by rw [HCS.out]; exact hg5.out))
              obtain ⟨u5, hc5⟩ := HOW.out.2.1
              have hf5 := HOW.out.2.2
              have HB5 := Lib.hid hb5
              clear hb5
              clear HG H1 H2 H3 H4 HB4
              go_wp2_with fail
              go_roundw
              case rel => exact ⟨k + 1, xs.take xs.length ++ d :: xs.drop xs.length, by omega, by go_num, HOW.out.1, Lib.hid (ins_props xs d xs.length (hs.take k) hs y k HXS.out SNOC.out HLT.out HGE.out ha), HB5.out.setCell hbase _⟩
              case measure => simp [intOf]; omega
            · go_region_law ((refine step_copy_splice rfl (.tmp 69) (.tmp 72) 26 26 rfl 3 Tryd.underlying26 infoSz (some ⟨g, xs.length + 1, none⟩) (some ⟨g, xs.length, none⟩) (xs.length + 1 - (xs.length + 1)) (cap - (xs.length + 1)) (xs.length + 1 - xs.length) (cap - xs.length) (by simp [Act.eval, Act.put]) (by simp [Act.eval, Act.put]) g (xs.length + 1) cur.toList 3 HG.out cs H1.out (H2 _).out H3.out H4.out w.heap.size w HB4.out.drew hbase ?_; intro w5 hg5 hb5))
              have HOW := Lib.hid (ins_own xs xs.length d w5 w.heap.size g cap cur 3 hbase hnc HCM.out hcs HTK.out ha (by rw [HCS.out]; exact hg5.out))
              obtain ⟨u5, hc5⟩ := HOW.out.2.1
              have hf5 := HOW.out.2.2
              have HB5 := Lib.hid hb5
              clear hb5
              clear HG H1 H2 H3 H4 HB4
              go_wp2_with fail
              go_roundw
              case rel => exact ⟨k + 1, xs.take xs.length ++ d :: xs.drop xs.length, by omega, by go_num, HOW.out.1, Lib.hid (ins_props xs d xs.length (hs.take k) hs y k HXS.out SNOC.out HLT.out HGE.out ha), HB5.out.setCell hbase _⟩
              case measure => simp [intOf]; omega
    · obtain rfl : k = n := by omega
      go_wp2_with fail
      go_ret2
      have e := HXS.out.canon
      rw [List.take_of_length_le (by have := HLN.out; omega)] at e
      rw [← e]
      exact HolR.of rfl (ownI_own HO.out) hB
end Go.Proofs.YtfoocingingpcaaDoor
