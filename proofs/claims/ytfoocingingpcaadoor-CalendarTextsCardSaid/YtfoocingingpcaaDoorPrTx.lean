/-
  Layer 3 (calendar): contracts of the reference's Decimal, two and Format, and of Atoi at every short string. Conditions: the listed variables read as the program's text lays them.
-/
import Derived.Test.YtfoocingingpcaaDoorPrTm
import Derived.Test.YtfoocingingpcaaDoorPrCr
import Derived.Test.YtfoocingingpcaaDoorPrLeaf
import Derived.Lib.SlBytesRow
import Derived.Lib.AtoiErrMem
namespace Go.Proofs.YtfoocingingpcaaDoor
open Go Go.RowKit Go.Lib

/-- What the loop keeps: the digits of M, if there are any left, and L behind them are those of N. -/
def DecI (N M : Nat) (L : List UInt8) : Prop := (L = [] ∧ M = N) ∨ (L ≠ [] ∧ ((M = 0 ∧ L = decDigits N) ∨ (M ≠ 0 ∧ decDigits M ++ L = decDigits N)))
theorem dec_start (N : Nat) : DecI N N [] := .inl ⟨rfl, rfl⟩
theorem dec_step {N M : Nat} {L : List UInt8} (h : DecI N M L) (hc : M ≠ 0 ∨ L = []) : DecI N (M / 10) (UInt8.ofNat (48 + M % 10) :: L) := by
  have key : ∀ K : Nat, decDigits K = (if K / 10 = 0 then [] else decDigits (K / 10)) ++ [UInt8.ofNat (48 + K % 10)] := by
    intro K
    by_cases hK : K < 10
    · rw [decDigits_one hK, if_pos (by omega), Nat.mod_eq_of_lt hK]; rfl
    · rw [decDigits, dif_neg hK, if_neg (by omega)]
  refine .inr ⟨by simp, ?_⟩
  rcases h with ⟨rfl, rfl⟩ | ⟨hL, ⟨rfl, _⟩ | ⟨hM, e⟩⟩
  · have k := key M
    by_cases z : M / 10 = 0
    · rw [if_pos z] at k; exact .inl ⟨z, k.symm⟩
    · rw [if_neg z] at k; exact .inr ⟨z, k.symm⟩
  · rcases hc with hc | hc
    · exact absurd rfl hc
    · exact absurd hc hL
  · have k := key M
    by_cases z : M / 10 = 0
    · rw [if_pos z] at k; rw [k] at e; exact .inl ⟨z, by simpa using e⟩
    · rw [if_neg z] at k; rw [k] at e; exact .inr ⟨z, by simpa using e⟩
theorem dec_end {N : Nat} {L : List UInt8} (h : DecI N 0 L) (hL : L ≠ []) : L = decDigits N := by
  rcases h with ⟨h, _⟩ | ⟨_, ⟨_, h⟩ | ⟨h, _⟩⟩
  · exact absurd h hL
  · exact h
  · exact absurd rfl h
theorem dec_len {N M : Nat} {L : List UInt8} (h : DecI N M L) (hN : N ≤ 9223372036854775808) : L.length ≤ 20 := by
  have k : (decDigits N).length ≤ 20 := by rw [decDigits_length]; exact nDigits_le20 N (by omega)
  rcases h with ⟨rfl, _⟩ | ⟨_, ⟨_, h⟩ | ⟨_, h⟩⟩
  · simp
  · rw [h]; exact k
  · rw [← h, List.length_append] at k; omega
/-- 'string([]byte{z})'. -/
theorem conv_one (w : World) (z : Int) (c : Nat) (hz : z = c) (hc : c < 256) :
    (convert 76 9 (.slice (some ⟨w.heap.size, 0, none⟩) 1 1)).run Tryd.prog (w.alloc (.cells #[.int .u8 z] 5)) = .ok (.string ⟨#[UInt8.ofNat c]⟩) (w.alloc (.cells #[.int .u8 z] 5)) := by
  subst hz
  have hB : Lib.Bytes (w.alloc (.cells #[.int .u8 (c : Int)] 5)) w.heap.size 0 ⟨#[UInt8.ofNat c]⟩ := by
    intro i hi
    obtain rfl : i = 0 := by have : i < 1 := hi; omega
    have e : (ByteArray.mk #[UInt8.ofNat c])[0].toNat = c := by show (UInt8.ofNat c).toNat = c; simp; omega
    rw [e]
    exact World.cell?_alloc_new _ _ _ _
  exact Lib.run_convert_whole (P := Tryd.prog) _ 76 5 9 (by kernel_rfl) (by kernel_rfl) (by kernel_rfl) w.heap.size 0 ⟨#[UInt8.ofNat c]⟩ hB 1
/-- 1 where the string is empty. -/
def emptyOf : Value → Nat
  | .string b => if b.size = 0 then 1 else 0
  | _ => 0

set_option maxRecDepth 100000 in
set_option maxHeartbeats 4000000 in
theorem dec_any (n : Int) (h0 : -9223372036854775808 ≤ n) (h1 : n ≤ 9223372036854775807) (w : World) :
    Calls Tryd.prog 65 #[.int .i64 n] w fun e w' => e = .returned (.string ⟨(Lib.itoa n).toArray⟩) ∧ Below w.heap.size w w' := by
  go_enter Tryd.func65, Tryd.ntmps65
  go_wp2_with (go_at_call 75; refine (size_any n h0 h1 _).mono ?_; rintro e w' ⟨rfl, rfl⟩)
  have b10 : n.natAbs ≤ 9223372036854775808 := by omega
  go_loopw [3, 4] (fun s m wr => ∃ (M : Nat) (L : List UInt8), s = .string ⟨L.toArray⟩ ∧ m = .int .u64 M ∧ DecI n.natAbs M L ∧ M ≤ 9223372036854775808 ∧ Below w.heap.size w wr) (fun s m _ => (RowKit.intOf m).toNat + emptyOf s)
  case atStart => exact ⟨n.natAbs, [], rfl, rfl, dec_start _, b10, Below.refl _ _⟩
  case round =>
    obtain ⟨M, L, rfl, rfl, hD, hM, hB⟩ := hrel
    have hlen := dec_len hD b10
    have HD := Lib.hid hD
    have HB := Lib.hid hB
    clear hD hB
    have hx : UInt8.ofNat (48 + M % 10) = 48 + UInt8.ofNat (M % 10) := by simp [UInt8.ofNat_add]
    have hS := Lib.hid (show Value.string (⟨#[48 + UInt8.ofNat (M % 10)]⟩ ++ ⟨L.toArray⟩) = Value.string ⟨(UInt8.ofNat (48 + M % 10) :: L).toArray⟩ by
      rw [show UInt8.ofNat (48 + M % 10) :: L = [UInt8.ofNat (48 + M % 10)] ++ L from rfl, bapp, hx])
    have hm0 := Lib.hid (show emptyOf (Value.string (⟨#[48 + UInt8.ofNat (M % 10)]⟩ ++ ⟨L.toArray⟩)) = 0 by
      rw [hS.out]; show (if ((UInt8.ofNat (48 + M % 10) :: L).toArray).size = 0 then 1 else 0) = 0; rw [if_neg (by simp)])
    have hc := conv_one wr (48 + (M : Int) % 10) (48 + M % 10) (by omega) (by omega)
    clear hx
    by_cases hz : M = 0
    · have hg : decide ((0 : Int) < (M : Int)) = false := decide_eq_false (by omega)
      have hg' : decide (0 < M) = false := decide_eq_false (by omega)
      have hZ := Lib.hid hz
      clear hz
      by_cases hL : L = []
      · have hE : L.isEmpty = true := by rw [hL]; rfl
        have hLL := Lib.hid hL
        clear hL
        go_wp2_with fail
        have hz := hZ.out
        have hm1 : emptyOf (Value.string ⟨L.toArray⟩) = 1 := by rw [hLL.out]; rfl
        rw [hm0.out, hm1]
        exact ⟨⟨M / 10, UInt8.ofNat (48 + M % 10) :: L, hS.out, by go_num, dec_step HD.out (.inr hLL.out), by omega, HB.out.alloc HB.out.size _⟩, by simp [RowKit.intOf]; omega⟩
      · have hE : L.isEmpty = false := by cases L with | nil => exact absurd rfl hL | cons _ _ => rfl
        have hd : L = decDigits n.natAbs := dec_end (hZ.out ▸ HD.out) hL
        have HL := Lib.hid hd
        clear hL hd hc
        by_cases hn : n < 0
        · have hn' : decide (n < 0) = true := decide_eq_true hn
          have hI := Lib.hid (show itoa n = 45 :: L by unfold itoa; rw [if_pos hn, HL.out])
          clear hn
          go_wp2_with fail
          go_ret
          exact ⟨by rw [hI.out, show (45 :: L) = [45] ++ L from rfl, bapp]; rfl, HB.out⟩
        · have hn' : decide (n < 0) = false := decide_eq_false hn
          have hI := Lib.hid (show itoa n = L by unfold itoa; rw [if_neg hn, HL.out]; congr 1; omega)
          clear hn
          go_wp2_with fail
          go_ret
          exact ⟨by rw [hI.out]; rfl, HB.out⟩
    · have hg : decide ((0 : Int) < (M : Int)) = true := decide_eq_true (by omega)
      have hg' : decide (0 < M) = true := decide_eq_true (by omega)
      have hZ := Lib.hid hz
      clear hz
      go_wp2_with fail
      have hz := hZ.out
      rw [hm0.out]
      exact ⟨⟨M / 10, UInt8.ofNat (48 + M % 10) :: L, hS.out, by go_num, dec_step HD.out (.inl hz), by omega, HB.out.alloc HB.out.size _⟩, by simp [RowKit.intOf]; omega⟩

/-- 'string([]byte{y, z})'. -/
theorem conv_two (w : World) (y z : Int) (b c : Nat) (hy : y = b) (hb : b < 256) (hz : z = c) (hc : c < 256) :
    (convert 76 9 (.slice (some ⟨w.heap.size, 0, none⟩) 2 2)).run Tryd.prog (w.alloc (.cells #[.int .u8 y, .int .u8 z] 5)) = .ok (.string ⟨#[UInt8.ofNat b, UInt8.ofNat c]⟩) (w.alloc (.cells #[.int .u8 y, .int .u8 z] 5)) := by
  subst hy hz
  have hB : Lib.Bytes (w.alloc (.cells #[.int .u8 (b : Int), .int .u8 (c : Int)] 5)) w.heap.size 0 ⟨#[UInt8.ofNat b, UInt8.ofNat c]⟩ := by
    intro i hi
    have h2 : i < 2 := hi
    rcases (by omega : i = 0 ∨ i = 1) with rfl | rfl
    · have e : (ByteArray.mk #[UInt8.ofNat b, UInt8.ofNat c])[0].toNat = b := by show (UInt8.ofNat b).toNat = b; simp; omega
      rw [e]
      exact World.cell?_alloc_new _ _ _ _
    · have e : (ByteArray.mk #[UInt8.ofNat b, UInt8.ofNat c])[1].toNat = c := by show (UInt8.ofNat c).toNat = c; simp; omega
      rw [e]
      exact World.cell?_alloc_new _ _ _ _
  exact Lib.run_convert_whole (P := Tryd.prog) _ 76 5 9 (by kernel_rfl) (by kernel_rfl) (by kernel_rfl) w.heap.size 0 ⟨#[UInt8.ofNat b, UInt8.ofNat c]⟩ hB 2

set_option maxRecDepth 100000 in
set_option maxHeartbeats 1000000 in
theorem rtwo_any (n : Nat) (h : n ≤ 99) (w : World) :
    Calls Tryd.prog 66 #[.int .i64 n] w fun e w' => e = .returned (.string ⟨(twoL n).toArray⟩) ∧ Below w.heap.size w w' := by
  have hc := conv_two w (48 + (n : Int) / 10) (48 + (n : Int) % 10) (48 + n / 10) (48 + n % 10) (by omega) (by omega) (by omega) (by omega)
  have E := Lib.hid (show twoL (n : Int) = [48 + UInt8.ofNat (n / 10), 48 + UInt8.ofNat (n % 10)] by rw [twoL2 n h]; simp [UInt8.ofNat_add])
  go_enter Tryd.func66, Tryd.ntmps66
  go_wp2_with fail
  go_ret
  exact ⟨by rw [E.out]; rfl, Below.alloc (Below.refl _ _) (Nat.le_refl _) _⟩

set_option maxRecDepth 100000 in
set_option maxHeartbeats 1000000 in
theorem rfmt_no (day : Int) (h : day < 0 ∨ 84005 < day) (w : World) :
    Calls Tryd.prog 40 #[.int .i64 day] w fun e w' => e = .returned (.string ⟨#[]⟩) ∧ w = w' := by
  go_enter Tryd.func40, Tryd.ntmps40
  go_wp2_with (go_at_call 25; (with_reducible refine (rdate_no _ h _).mono ?_); rintro e w' ⟨rfl, rfl⟩)
  go_ret
  exact ⟨rfl, rfl⟩
set_option maxRecDepth 100000 in
set_option maxHeartbeats 1000000 in
theorem rfmt_yes (day y k d : Int) (h : Cal.DateIs day y k d) (w : World) :
    Calls Tryd.prog 40 #[.int .i64 day] w fun e w' => e = .returned (.string ⟨(dateL y (k + 1) (d + 1)).toArray⟩) ∧ Below w.heap.size w w' := by
  have H := Lib.hid h
  obtain ⟨y0, y1, k0, k1, d0, d1, eq⟩ := h
  have d2 : d ≤ 30 := by have := Cal.dm_bd y k; omega
  have l1 := Lib.itoa_length_le y (by omega) (by omega)
  have l2 := twoL_len (k + 1) (by omega) (by omega)
  have l3 := twoL_len (d + 1) (by omega) (by omega)
  have j1 : ¬ 9223372036854775807 < (Lib.itoa y).length + 1 := by omega
  have j2 : ¬ 9223372036854775807 < (Lib.itoa y).length + 1 + (twoL (k + 1)).length := by omega
  have j3 : ¬ 9223372036854775807 < (Lib.itoa y).length + 1 + (twoL (k + 1)).length + 1 := by omega
  have j4 : ¬ 9223372036854775807 < (Lib.itoa y).length + 1 + (twoL (k + 1)).length + 1 + (twoL (d + 1)).length := by omega
  have C1 : Hid (∀ w : World, Calls Tryd.prog 66 #[.int .i64 (k + 1)] w fun e w' => e = .returned (.string ⟨(twoL (k + 1)).toArray⟩) ∧ Below w.heap.size w w') := Lib.hid (fun w => by
    obtain ⟨n, e⟩ := Int.eq_ofNat_of_zero_le (show 0 ≤ k + 1 by omega)
    rw [e]; exact rtwo_any n (by omega) w)
  have C2 : Hid (∀ w : World, Calls Tryd.prog 66 #[.int .i64 (d + 1)] w fun e w' => e = .returned (.string ⟨(twoL (d + 1)).toArray⟩) ∧ Below w.heap.size w w') := Lib.hid (fun w => by
    obtain ⟨n, e⟩ := Int.eq_ofNat_of_zero_le (show 0 ≤ d + 1 by omega)
    rw [e]; exact rtwo_any n (by omega) w)
  clear d1 eq l2 l3
  go_enter Tryd.func40, Tryd.ntmps40
  go_wp2_with (go_at_call 25; (with_reducible refine (rdate_yes _ y k d H.out _).mono ?_); rintro e w' ⟨rfl, rfl⟩)
  refine (dec_any _ (by omega) (by omega) _).mono ?_
  rintro e w1 ⟨rfl, hw1⟩
  go_wp2_with fail
  refine (C1.out _).mono ?_
  rintro e w2 ⟨rfl, hw2⟩
  have hw12 := hw1.trans (hw2.mono hw1.size)
  clear hw1 hw2
  go_wp2_with fail
  refine (C2.out _).mono ?_
  rintro e w3 ⟨rfl, hw3⟩
  have hw13 := hw12.trans (hw3.mono hw12.size)
  clear hw12 hw3
  go_wp2_with fail
  go_ret
  exact ⟨by unfold dateL; rw [bapp, bapp, bapp, bapp]; rfl, hw13⟩
/-- The listed variables read as the program's text lays them: the errors of strconv too. -/
structure OKT (w : World) : Prop where
  okc : OKC w
  syn : ∃ te pe, w.cell? ⟨1, 0, none⟩ = some (.iface te pe)
  rng : ∃ te pe, w.cell? ⟨2, 0, none⟩ = some (.iface te pe)
theorem cell_belowT {w w' : World} {p : Addr} {v : Value} (h : w.cell? p = some v) (hb : Below w.heap.size w w') : w'.cell? p = some v :=
  (hb.cell (World.block_lt_of_cell? w p h)).trans h
theorem OKT.below {w w' : World} (h : OKT w) (hb : Below w.heap.size w w') : OKT w' :=
  ⟨h.okc.below hb, h.syn.imp fun _ ⟨p, hp⟩ => ⟨p, cell_belowT hp hb⟩, h.rng.imp fun _ ⟨p, hp⟩ => ⟨p, cell_belowT hp hb⟩⟩
/-- What Atoi gives: a number, and an error that nobody reads. -/
def AtoiR (l : List UInt8) (w : World) (e : Ending) (w' : World) : Prop := ∃ (v : Int) (x : Value), e = .returned (.tuple #[.int .i64 v, x]) ∧ (∀ n, atoiAll l = .ok n → v = n) ∧ -9223372036854775808 ≤ v ∧ v ≤ 9223372036854775807 ∧ Below w.heap.size w w'
theorem atoi_any (s : ByteArray) (hs : s.size ≤ 281474976710656) (w : World) (hok : OKT w) :
    Calls Tryd.prog 67 #[.string s] w (AtoiR s.data.toList w) := by
  obtain ⟨te, pe, hsy⟩ := hok.syn
  obtain ⟨tr, pr, hrg⟩ := hok.rng
  rcases ha : Lib.atoiAll s.data.toList with v | _ | _
  · refine (Tryd.strconv_Atoi_ok s (by omega) v ha w).mono fun e w' ⟨he, hw⟩ => ⟨v, _, he, fun n hn => by rw [ha] at hn; injection hn, (Lib.atoiAll_bounds ha).1, (Lib.atoiAll_bounds ha).2, ?_⟩
    rcases hw with rfl | ⟨t, rfl⟩
    · exact Below.refl _ _
    · exact Lib.bytesWorld_below _ _ _
  · have hc : Calls Tryd.prog 67 #[.string s] w fun e w' => ∃ N, e = .returned (.tuple #[.int .i64 0, .iface 83 (.pointer (some ⟨N, 0, none⟩))]) ∧ w.heap.size ≤ N ∧ w'.heap[N]? = some (.cells #[.string ⟨#[65, 116, 111, 105]⟩, .string s, .iface te pe] 102 (0, 0)) ∧ Below w.heap.size w w' :=
      Any.strconv_Atoi_syntax Tryd.laysC172 s hs ha _ w hsy (.inr ⟨_, _, rfl⟩)
    exact hc.mono fun e w' ⟨N, he, _, _, hb⟩ => ⟨_, _, he, fun n hn => (by rw [ha] at hn; cases hn), by omega, by omega, hb⟩
  · have hc : Calls Tryd.prog 67 #[.string s] w fun e w' => ∃ N, e = .returned (.tuple #[.int .i64 (Lib.atoiSat s.data.toList), .iface 83 (.pointer (some ⟨N, 0, none⟩))]) ∧ w.heap.size ≤ N ∧ w'.heap[N]? = some (.cells #[.string ⟨#[65, 116, 111, 105]⟩, .string s, .iface tr pr] 102 (0, 0)) ∧ Below w.heap.size w w' :=
      Any.strconv_Atoi_range Tryd.laysC172 s hs ha _ w hrg (.inr ⟨_, _, rfl⟩)
    exact hc.mono fun e w' ⟨N, he, _, _, hb⟩ => ⟨_, _, he, fun n hn => (by rw [ha] at hn; cases hn), by unfold Lib.atoiSat; split <;> omega, by unfold Lib.atoiSat; split <;> omega, hb⟩
end Go.Proofs.YtfoocingingpcaaDoor
