/-
  Layer 8 (inbox): the contract of Effective. Condition: the list reads as events.
-/
import Derived.Test.YtebdldinlodgpaaPrIv
import Derived.Deep.DeepCutAuto
namespace Go.Proofs.Ytebdldinlodgpaa.Ib
open Go Go.RowKit Go.Lib Go.Sort Go.Shelf Go.Maps Go.Proofs Go.Proofs.Ytebdldinlodgpaa Go.Proofs.Ytebdldinlodgpaa.Tp Go.Proofs.Ytebdldinlodgpaa.Gm Go.Proofs.Ytebdldinlodgpaa.Rc Go.Proofs.Ytebdldinlodgpaa.SS
set_option linter.unusedVariables false

section
variable {w : World} {b n : Nat} {f : Int → Int → Option Int} {t s : Int} {ops : Array Oper} {rest : List Oper} {o : Oper} {a : Act} {Q : Exit → Act → World → Prop}
theorem wpList_lookK_none (hg : o.guard = none) (m x : Operand) (hop : o.op = Op.lookup 94 m x true) (hm : a.eval m = .map (some b)) (hown : MapK w b n f) (hx : a.eval x = .agg #[.int .i64 t, .int .i64 s]) (ht : W64 t) (hs : W64 s) (hf : f t s = none)
    (hK : ∀ c : Int, wpList Try.prog ops Q rest (a.put o.dst (.tuple #[.int .i64 c, .bool false])) w) : wpList Try.prog ops Q (o :: rest) a w := by
  refine wpList_lookK hg m x hop hm hown hx ht hs fun c _ _ => ?_
  rw [hf]
  exact hK c
theorem wpList_lookK_some (hg : o.guard = none) (m x : Operand) (hop : o.op = Op.lookup 94 m x true) (hm : a.eval m = .map (some b)) (hown : MapK w b n f) (hx : a.eval x = .agg #[.int .i64 t, .int .i64 s]) (ht : W64 t) (hs : W64 s) (v : Int) (hf : f t s = some v)
    (hK : wpList Try.prog ops Q rest (a.put o.dst (.tuple #[.int .i64 v, .bool true])) w) : wpList Try.prog ops Q (o :: rest) a w := by
  refine wpList_lookK hg m x hop hm hown hx ht hs fun c hc _ => ?_
  rw [hf, hc v hf]
  exact hK
end
def effE (l : List Ev) : Int := if 1024 < l.length then 3 else if badL l then 1 else 0
def effF (l : List Ev) (emp : Int) : List St := if effE l = 0 then effL l emp else []
def EffR (l : List Ev) (emp : Int) (w : World) (e : Ending) (w' : World) : Prop := ∃ a cap, e = .returned (.tuple #[.slice a (effF l emp).length cap, .int .i64 (effE l)]) ∧ OwnPS (effF l emp) w.heap.size a cap w' ∧ Below w.heap.size w w'
theorem chk_one (a : Option Addr) (n c : Nat) (l : List Ev) (h : l.length = n) : chkE [⟨a, n, c, l⟩] = effE l := by
  unfold chkE effE
  rw [h]
  by_cases h1 : 1024 < n <;> simp [h1]
theorem eff_bad (w w' : World) {l : List Ev} {emp x : Int} (h : effE l = x) (hx : x ≠ 0) (hb : Below w.heap.size w w') : EffR l emp w (.returned (.tuple #[.slice none 0 0, .int .i64 x])) w' := by
  unfold EffR effF
  rw [h, if_neg hx]
  exact ⟨none, 0, rfl, .inl ⟨rfl, rfl, rfl⟩, hb⟩
theorem eff_good (w w' : World) {l : List Ev} {emp : Int} (h : effE l = 0) {a : Option Addr} {n cap : Nat} (hn : (effL l emp).length = n) (ho : OwnPS (effL l emp) w.heap.size a cap w') (hb : Below w.heap.size w w') : EffR l emp w (.returned (.tuple #[.slice a n cap, .int .i64 0])) w' := by
  unfold EffR effF
  rw [h, if_pos rfl, hn]
  exact ⟨a, cap, rfl, ho, hb⟩
theorem OwnPS.mono {l : List St} {B B' : Nat} {a : Option Addr} {cap : Nat} {w' : World} (h : OwnPS l B a cap w') (hb : B' ≤ B) : OwnPS l B' a cap w' := by
  rcases h with h | ⟨g, h1, h2, h3, h4⟩
  · exact .inl h
  · exact .inr ⟨g, h1, h2, Nat.le_trans hb h3, h4⟩
theorem ownL_ok {l : List Ev} {emp : Int} (h : badL l = false) : ∀ e ∈ ownL l emp, okE e = true := fun e he => badL_ok h e (mem_cntL (List.mem_filter.1 he).1)
theorem ownL_keys (l : List Ev) (emp : Int) : (ownL l emp).Pairwise fun a b => cmpK a b < 0 := (cntL_keys l).filter _
theorem recL_apart2 {own : List Ev} (hk : own.Pairwise fun a b => cmpK a b < 0) : Apart (recL own) := by
  unfold recL Apart
  rw [List.pairwise_map]
  refine (hk.filter _).imp fun {a b} h e => ?_
  simp only [stOf] at e
  unfold cmpK at h
  rw [e.1, e.2, cmpL_self] at h
  exact absurd h (by decide)
theorem eff_apart {own : List Ev} (hk : own.Pairwise fun a b => cmpK a b < 0) : Apart (effU own) := by
  unfold effU Apart
  rw [List.pairwise_map]
  exact ((recL_apart2 hk).filter _).imp fun {a b} h e => h e
theorem recL_w64 {own : List Ev} (h : ∀ e ∈ own, okE e = true) (j : Nat) (hj : j < (recL own).length) : W64 (recL own)[j]!.kt ∧ W64 (recL own)[j]!.ks := by
  have hm : (recL own)[j]! ∈ recL own := by rw [getElem!_pos _ j hj]; exact List.getElem_mem hj
  generalize (recL own)[j]! = s at *
  unfold recL at hm
  obtain ⟨x, hx, rfl⟩ := List.mem_map.1 hm
  have bd := okE_bd (h x (List.mem_filter.1 hx).1)
  exact ⟨w64 (by show _ ≤ x.kt; omega) (by show x.kt ≤ _; omega), w64 (by show _ ≤ x.ks; omega) (by show x.ks ≤ _; omega)⟩
section
variable {w5 W W' : World} {A : Option Addr} {N cc b pb k m : Nat} {own : List Ev} {ss : List St} {g : Int → Int → Option Int}
theorem LpI.ps (h : LpI w5 A N cc b pb own k ss m g W) : OwnPS ss w5.heap.size A cc W := by
  have hln := h.len
  rcases OwnL.form h.ow with ⟨e, rfl⟩ | ⟨gs, cap, e, _⟩
  · injection e with e1 e2 e3
    exact .inl ⟨e1, rfl, e3⟩
  · injection e with e1 e2 e3
    subst e1 e3
    obtain ⟨r1, r2, r3, r4⟩ := own_row (cs := ss) (by have := h.ow.row; rw [h.len] at this; exact this) hln
    exact .inr ⟨gs, rfl, r1, r2, r3, by omega⟩
theorem LpI.w64 (h : LpI w5 A N cc b pb own k ss m g W) (ho : ∀ e ∈ own, okE e = true) : ∀ s ∈ ss, W64 s.kt ∧ W64 s.ks := by
  intro s hs
  obtain ⟨j, hj, rfl⟩ := List.mem_iff_getElem.1 hs
  have hj2 : j < (recL own).length := by rw [← h.ef.len]; exact hj
  have := recL_w64 ho j hj2
  obtain ⟨n1, n2, n3⟩ := h.ef.nm j hj2
  rw [getElem!_pos ss j hj] at n2 n3
  rw [n2, n3]; exact this
theorem LpI.nes (h : LpI w5 A N cc b pb own k ss m g W) : ∀ gs, A = some ⟨gs, 0, none⟩ → gs ≠ pb ∧ gs ≠ b := fun gs e => by
  subst e
  exact ⟨fun e => h.pn (by rw [← e]; rfl), fun e => own_ne h.ow.row h.mp (by rw [← e]; rfl)⟩
theorem LpI.start {v : Value} (ho : OwnL 70 4 encC w5 (.slice A N cc) (recL own) W) (hn : (recL own).length = N) (hm : MapK W b m g) (hi : RecI (recL own) g) (hb : w5.heap.size ≤ b) :
    LpI w5 A N cc b W.heap.size own 0 (recL own) m g (W.alloc (.cells #[.map (some b)] 94)) :=
  ⟨OwnL.alloc ho _, hn, hm.block (Below.heap_alloc _ _ _ hm.lt), EffI.start hi, by go_simp, fun e => by have := (ho.row.lt _ e).2; omega, hb, ho.below.size⟩
end
set_option maxRecDepth 100000 in
set_option maxHeartbeats 8000000 in
theorem effective_any (a : Option Addr) (n c : Nat) (l : List Ev) (emp : Int) (w : World) (ha : Lst w a n c l) :
    Calls Try.prog 41 #[.slice a n c, .int .i64 emp] w (EffR l emp w) := by
  have HA := Lib.hid ha
  have LA := Lib.hid ha.1.1
  have B0 : Hid (Below w.heap.size w (w.alloc (.cells #[.int .i64 emp] 3))) := Lib.hid ((Below.refl _ _).alloc (Nat.le_refl _) _)
  have P1 := Lib.hid (one_any (w.alloc (.cells #[.int .i64 emp] 3)) a n c l (ha.more B0.out) 44)
  have C1 := Lib.hid (check_any (w.alloc (.cells #[.int .i64 emp] 3)).heap.size 1 1 [⟨a, n, c, l⟩] rfl (by decide) _ P1.out)
  rw [chk_one a n c l ha.1.1, show (w.alloc (.cells #[.int .i64 emp] 3)).heap.size = w.heap.size + 1 by simp] at C1
  have B1 : Hid (Below w.heap.size w ((w.alloc (.cells #[.int .i64 emp] 3)).alloc (.cells #[.slice a n c] 44))) := Lib.hid (B0.out.alloc B0.out.size _)
  have E1 : Hid (((w.alloc (.cells #[.int .i64 emp] 3)).alloc (.cells #[.slice a n c] 44)).cell? ⟨w.heap.size, 0, none⟩ = some (.int .i64 emp)) := Lib.hid (by go_simp)
  clear ha P1 B0
  by_cases h0 : effE l = 0
  · have E := Lib.hid h0
    rw [h0] at C1
    have h1024 : l.length ≤ 1024 := by
      unfold effE at h0
      by_cases h : 1024 < l.length
      · rw [if_pos h] at h0; cases h0
      · omega
    have hbad : badL l = false := by
      unfold effE at h0
      rw [if_neg (by omega)] at h0
      cases hb : badL l with
      | false => rfl
      | true => rw [hb] at h0; cases h0
    have hn : n ≤ 1024 := by have := LA.out; omega
    have CN := Lib.hid (fun W h => counting_any a n c l (by omega) W h)
    have LC : Hid ((cntL l).length ≤ 1024) := Lib.hid (by have := cntL_len l; omega)
    have HOK := Lib.hid (ownL_ok (emp := emp) hbad)
    have HKY := Lib.hid (ownL_keys l emp)
    have GOOD := Lib.hid (fun w' a n cap hn ho hb => eff_good w w' (l := l) (emp := emp) h0 (a := a) (n := n) (cap := cap) hn ho hb)
    have EL : Hid (effL l emp = setL cmpS (effU (ownL l emp))) := Lib.hid rfl
    have OL : Hid ((ownL l emp).length ≤ 1024) := Lib.hid (Nat.le_trans (List.length_filter_le _ _) LC.out)
    have OD : Hid (((cntL l).filter fun e => decide (e.em = emp)) = ownL l emp) := Lib.hid rfl
    have DL := Lib.hid (fun B W a cap h1 h2 eb h3 h4 => del_emp B W a cap (cntL l) h1 h2 (by have := LC.out; omega) eb emp h3 h4)
    rw [OD.out] at DL
    rw [EL.out] at GOOD
    clear h0 h1024 hbad OD EL
    unfold OwnO at CN
    generalize cntL l = K at *
    generalize ownL l emp = own at *
    unfold DelE at DL
    go_enter Try.func41, Try.ntmps41
    go_wp2_with fail
    refine C1.out.mono ?_
    rintro e w2 ⟨rfl, g2⟩
    have B2 := Lib.hid (B1.out.trans (g2.below.mono B1.out.size))
    have E2 := Lib.hid ((g2.below.cell (World.block_lt_of_cell? _ _ E1.out)).trans E1.out)
    have S2 : Hid (w.heap.size < w2.heap.size) := Lib.hid (World.block_lt_of_cell? _ _ E2.out)
    have CN2 := Lib.hid (CN.out w2 (HA.out.more B2.out))
    clear g2 C1 B1 E1 CN HA
    go_wp2_with fail
    refine CN2.out.mono ?_
    rintro e w3 ⟨a3, cap3, rfl, ho, hb3⟩
    have D3 := Lib.hid (DL.out w2.heap.size w3 a3 cap3 ho hb3.size w.heap.size ((hb3.cell S2.out).trans E2.out) S2.out)
    have B3 := Lib.hid (B2.out.trans (hb3.mono B2.out.size))
    clear ho CN2 DL E2
    have H3 := Lib.hid hb3
    clear hb3
    generalize K.length = NK at *
    go_wp2_with fail
    refine D3.out.mono ?_
    rintro e w4 ⟨cap4, rfl, hl4, hb4⟩
    have B4 : Hid (Below w.heap.size w w4) := Lib.hid (B3.out.trans (hb4.mono (Nat.le_of_lt S2.out)))
    have R4 := Lib.hid (record_any a3 own.length cap4 own w4 hl4 (by have := OL.out; omega) HOK.out HKY.out)
    have L4 := Lib.hid hl4
    clear hl4 hb4 D3 B3 H3 B2 S2
    unfold RecR at R4
    generalize hN5 : own.length = N5 at *
    have HN5 := Lib.hid hN5
    have hN5b : N5 ≤ 1024 := OL.out
    clear hN5 OL
    go_wp2_with fail
    refine R4.out.mono ?_
    rintro e w5 ⟨v, b, m, g, rfl, hO, hM, hI, hb, hm⟩
    obtain ⟨A, cc, hv, _, _⟩ := OwnL.src hO
    subst hv
    have LS : Hid (LpI w4 A (recL own).length cc b w5.heap.size own 0 (recL own) m g (w5.alloc (.cells #[.map (some b)] 94))) := Lib.hid (LpI.start (v := .int .i64 0) hO rfl hM hI hb)
    have NB : Hid ((recL own).length ≤ 1024) := Lib.hid (by have := recL_len own; have := HN5.out; omega)
    clear hO hM hI hb R4
    generalize hN : (recL own).length = N at *
    have HN := Lib.hid hN
    clear hN
    go_wp2_with fail
    go_loopw [32] (fun z wr => ∃ k : Nat, k ≤ N5 ∧ z = .int .i64 k ∧ Hid (∃ ss m g, m ≤ 100000 ∧ LpI w4 A N cc b w5.heap.size own k ss m g wr)) (fun z _ => N5 - (intOf z).toNat)
    case atStart => exact ⟨0, by omega, rfl, Lib.hid ⟨_, m, g, hm, LS.out⟩⟩
    case round =>
      clear LS
      obtain ⟨k, hk, rfl, HI⟩ := hrel
      obtain ⟨ss, m2, g2, hm2, hI⟩ := HI.out
      have HL := Lib.hid hI
      clear HI hI
      by_cases hlt : k < N5
      · have t0 : decide ((k : Int) < (N5 : Int)) = true := decide_eq_true (by omega)
        have i1 : (k : Int) < (N5 : Int) := by omega
        have hkl : k < own.length := by rw [HN5.out]; exact hlt
        obtain ⟨x, hx0, _, hc⟩ := (L4.out.more (OwnL.below HL.out.ow)).1.2 (by omega)
        subst hx0
        obtain ⟨a0, a1, a2, a3, a4, a5, a6⟩ := hc k hlt
        have BD := okE_bd (HOK.out own[k]! (by rw [getElem!_pos own k hkl]; exact List.getElem_mem hkl))
        have SK := Lib.hid (fun W (h : LpI w4 A N cc b w5.heap.size own k ss m2 g2 W) h2 => h.skip hkl h2)
        have CA := Lib.hid (fun W W' (h : LpI w4 A N cc b w5.heap.size own k ss m2 g2 W) h2 hm hg => h.cancel (W' := W') hkl h2 hm hg)
        have CO := Lib.hid (fun W (h : LpI w4 A N cc b w5.heap.size own k ss m2 g2 W) h2 i gs hi hgi hA => h.correct hkl h2 (i := i) (gs := gs) hi hgi hA)
        clear hc hkl
        generalize own[k]! = ev at *
        obtain ⟨c0, c1, c2, c3, c4, c5, c6⟩ := ev
        simp only at a0 a1 a2 a3 a4 a5 a6 BD SK CA CO
        have HW5 : Hid (W64 c5) := Lib.hid (w64 (by omega) (by omega))
        have HW6 : Hid (W64 c6) := Lib.hid (w64 (by omega) (by omega))
        have HL2 := Lib.hid (HL.out.alloc (.cells #[.int .i64 c0, .int .i64 c1, .int .i64 c2, .int .i64 c3, .int .i64 c4, .int .i64 c5, .int .i64 c6] 26))
        have hpc := HL2.out.pc
        have INN := Lib.hid HL.out.ef.inn
        clear BD HL
        rcases hg : g2 c5 c6 with _ | v
        · have SK2 := Lib.hid (SK.out _ HL2.out (.inl hg))
          clear SK CA CO INN
          go_wp2_with (at_lookup; refine wpList_lookK_none rfl _ _ rfl rfl HL2.out.mp rfl HW5.out HW6.out hg ?_)
          intro c'
          clear hg
          go_wp2_with fail
          go_roundw
          case rel => exact ⟨k + 1, by omega, by go_num, Lib.hid ⟨ss, m2, g2, hm2, SK2.out⟩⟩
          case measure => simp [intOf]; omega
        · obtain ⟨j, hj, rfl, _, _⟩ := INN.out _ _ _ hg
          have HGJ := Lib.hid hg
          have HJ := Lib.hid hj
          clear INN hj
          obtain h | h | ⟨h5, h6⟩ : c4 = 5 ∨ c4 = 6 ∨ (c4 ≠ 5 ∧ c4 ≠ 6) := by omega
          · subst h
            have CA2 := Lib.hid (fun W' hm hg => CA.out _ W' HL2.out rfl hm hg)
            clear SK CA CO
            go_wp2_with (first
              | (at_lookup; refine wpList_lookK_some rfl _ _ rfl rfl HL2.out.mp rfl HW5.out HW6.out _ hg ?_; clear hg)
              | (at_delete; refine wpList_delK rfl _ _ rfl rfl HL2.out.mp rfl HW5.out HW6.out ?_; intro w7 hm7 hg7))
            have CA3 := Lib.hid (CA2.out w7 hm7 hg7)
            clear hm7 hg7 CA2 HL2
            go_wp2_with fail
            go_roundw
            case rel => exact ⟨k + 1, by omega, by go_num, Lib.hid ⟨ss, m2, _, hm2, CA3.out⟩⟩
            case measure => simp [intOf]; omega
          · subst h
            obtain ⟨gs, hA, ⟨y, hy⟩, hfy, hjN⟩ := HL2.out.cell HJ.out
            have CO2 := Lib.hid (CO.out _ HL2.out rfl j gs HJ.out HGJ.out hA)
            have HHA := Lib.hid hA
            have HMP := Lib.hid HL2.out.mp
            have j0 : (0 : Int) ≤ (j : Int) := by omega
            have j1 : (j : Int) < (N : Int) := by omega
            clear SK CA CO HGJ HL2
            subst hA
            go_wp2_with (at_lookup; refine wpList_lookK_some rfl _ _ rfl rfl HMP.out rfl HW5.out HW6.out _ hg ?_)
            clear hg
            go_wp2_with fail
            go_roundw
            case rel => exact ⟨k + 1, by omega, by go_num, Lib.hid ⟨_, m2, g2, hm2, CO2.out⟩⟩
            case measure => simp [intOf]; omega
          · have e5 : decide (c4 = 5) = false := decide_eq_false h5
            have e6 : decide (c4 = 6) = false := decide_eq_false h6
            have SK2 := Lib.hid (SK.out _ HL2.out (.inr ⟨h5, h6⟩))
            clear SK CA CO HGJ
            go_wp2_with (at_lookup; refine wpList_lookK_some rfl _ _ rfl rfl HL2.out.mp rfl HW5.out HW6.out _ hg ?_)
            clear hg
            go_wp2_with fail
            go_roundw
            case rel => exact ⟨k + 1, by omega, by go_num, Lib.hid ⟨ss, m2, g2, hm2, SK2.out⟩⟩
            case measure => simp [intOf]; omega
      · obtain rfl : k = N5 := by omega
        have t0 : decide ((k : Int) < (k : Int)) = false := decide_eq_false (by omega)
        have HF : Hid (ss.filter (fun s => (g2 s.kt s.ks).isSome) = effU own) := Lib.hid (EffI.done (by have := HL.out.ef; rwa [← HN5.out] at this))
        have DP := Lib.hid (del_pl w4.heap.size wr A cc ss HL.out.ps HL.out.ow.below.size (by have := HL.out.len; have := NB.out; omega) w5.heap.size b m2 g2 HL.out.pc HL.out.mp HL.out.nes (HL.out.w64 HOK.out))
        rw [HF.out, HL.out.len] at DP
        have AP := Lib.hid (eff_apart HKY.out)
        have LU : Hid ((effU own).length ≤ 1024) := Lib.hid (by have h1 := NB.out; have h2 := HN.out; unfold effU; rw [List.length_map]; exact Nat.le_trans (List.length_filter_le _ _) (by omega))
        have SO := Lib.hid (fun W a cap h hB => sort_own w4.heap.size W a cap (effU own) h hB (by have := LU.out; omega) AP.out)
        have EQ := Lib.hid (apart_len AP.out)
        have BW := Lib.hid (HL.out.ow.below)
        unfold DelS at DP
        unfold SortS at SO
        clear HF AP LU HL HOK HKY HN NB L4
        generalize setL cmpS (effU own) = U2 at *
        generalize effU own = U at *
        generalize U.length = NU at *
        go_wp2_with fail
        refine DP.out.mono ?_
        rintro e w7 ⟨cap7, rfl, hp7, hb7⟩
        have SO7 := Lib.hid (SO.out w7 A cap7 hp7 (Nat.le_trans BW.out.size hb7.size))
        have B7 := Lib.hid (BW.out.trans hb7)
        clear hp7 hb7 DP SO BW
        go_wp2_with fail
        refine SO7.out.mono ?_
        rintro e w8 ⟨rfl, hp8, hb8⟩
        have B8 := Lib.hid (B4.out.trans ((B7.out.trans hb8).mono B4.out.size))
        have P8 := Lib.hid (hp8.mono B4.out.size)
        clear hp8 hb8 SO7 B7
        go_wp2_with fail
        go_ret2
        exact GOOD.out _ A NU cap7 EQ.out P8.out B8.out
  · have E := Lib.hid h0
    have BAD := Lib.hid (fun w' hb => eff_bad w w' (l := l) (emp := emp) (x := effE l) rfl h0 hb)
    have NE : Hid (decide (effE l = 0) = false) := Lib.hid (decide_eq_false h0)
    clear h0
    generalize effE l = x at *
    have t0 : decide (x = 0) = false := NE.out
    have t1 : ¬ x = 0 := E.out
    go_enter Try.func41, Try.ntmps41
    go_wp2_with fail
    refine C1.out.mono ?_
    rintro e w2 ⟨rfl, g2⟩
    have B2 := Lib.hid (B1.out.trans (g2.below.mono B1.out.size))
    clear g2 C1
    go_wp2_with fail
    go_ret2
    exact BAD.out _ B2.out
end Go.Proofs.Ytebdldinlodgpaa.Ib
