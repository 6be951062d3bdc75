/-
  Layer 7 (records): mathematics of the checksum, of frames and of the scanner. No condition.
-/
import Derived.Test.YtebdldinlodgpaaPrLeaf
namespace Go.Proofs.Ytebdldinlodgpaa.Rc
open Go

/-- An event. -/
structure Ev where
  kt : Int
  ks : Int
  em : Int
  ti : Int
  ki : Int
  tt : Int
  ts : Int

@[ext] theorem Ev.ext' {a b : Ev} (h1 : a.kt = b.kt) (h2 : a.ks = b.ks) (h3 : a.em = b.em) (h4 : a.ti = b.ti) (h5 : a.ki = b.ki) (h6 : a.tt = b.tt) (h7 : a.ts = b.ts) : a = b := by
  cases a; cases b; simp_all

/-! ## The checksum -/
/-- One bit of the checksum. -/
def st (s : Nat) : Nat := if s < 32768 then 2 * s else (2 * s - 65536) ^^^ 4129
theorem st_lt {s : Nat} (h : s < 65536) : st s < 65536 := by
  unfold st
  split
  · omega
  · exact Nat.xor_lt_two_pow (n := 16) (by omega) (by omega)
theorem xor_rc {a b c : Nat} (h : a ^^^ c = b ^^^ c) : a = b := by
  have := congrArg (· ^^^ c) h
  simpa [Nat.xor_assoc] using this
theorem xor_lc {a b c : Nat} (h : c ^^^ a = c ^^^ b) : a = b := by
  rw [Nat.xor_comm c a, Nat.xor_comm c b] at h
  exact xor_rc h
theorem st_inj {s t : Nat} (hs : s < 65536) (ht : t < 65536) (h : st s = st t) : s = t := by
  unfold st at h
  have x1 := Nat.xor_mod_two_eq_one (a := 2 * s - 65536) (b := 4129)
  have x2 := Nat.xor_mod_two_eq_one (a := 2 * t - 65536) (b := 4129)
  split at h <;> split at h
  · omega
  · omega
  · omega
  · have := xor_rc h
    omega
def st8 (s : Nat) : Nat := st (st (st (st (st (st (st (st s)))))))
theorem st8_lt {s : Nat} (h : s < 65536) : st8 s < 65536 := st_lt (st_lt (st_lt (st_lt (st_lt (st_lt (st_lt (st_lt h)))))))
theorem st8_inj {s t : Nat} (hs : s < 65536) (ht : t < 65536) (h : st8 s = st8 t) : s = t := by
  unfold st8 at h
  have a1 := st_lt hs; have a2 := st_lt a1; have a3 := st_lt a2; have a4 := st_lt a3; have a5 := st_lt a4; have a6 := st_lt a5; have a7 := st_lt a6
  have b1 := st_lt ht; have b2 := st_lt b1; have b3 := st_lt b2; have b4 := st_lt b3; have b5 := st_lt b4; have b6 := st_lt b5; have b7 := st_lt b6
  exact st_inj hs ht (st_inj a1 b1 (st_inj a2 b2 (st_inj a3 b3 (st_inj a4 b4 (st_inj a5 b5 (st_inj a6 b6 (st_inj a7 b7 h)))))))
def crc1 (s c : Nat) : Nat := st8 (s ^^^ (c * 256))
theorem xor_lt {s c : Nat} (hs : s < 65536) (hc : c < 256) : s ^^^ (c * 256) < 65536 := Nat.xor_lt_two_pow (n := 16) (by omega) (by omega)
theorem crc1_lt {s c : Nat} (hs : s < 65536) (hc : c < 256) : crc1 s c < 65536 := st8_lt (xor_lt hs hc)
theorem crc1_injS {s t c : Nat} (hs : s < 65536) (ht : t < 65536) (hc : c < 256) (h : crc1 s c = crc1 t c) : s = t :=
  xor_rc (st8_inj (xor_lt hs hc) (xor_lt ht hc) h)
theorem crc1_injC {s c d : Nat} (hs : s < 65536) (hc : c < 256) (hd : d < 256) (h : crc1 s c = crc1 s d) : c = d := by
  have := xor_lc (st8_inj (xor_lt hs hc) (xor_lt hs hd) h)
  omega
def crcF (s : Nat) (l : List Nat) : Nat := l.foldl crc1 s
def crc (l : List Nat) : Nat := crcF 65535 l
theorem crcF_cons (s c : Nat) (l : List Nat) : crcF s (c :: l) = crcF (crc1 s c) l := by unfold crcF; rw [List.foldl_cons]
/-- Bytes. -/
def By (l : List Nat) : Prop := ∀ x ∈ l, x < 256
theorem crcF_lt {s : Nat} {l : List Nat} (hs : s < 65536) (hl : By l) : crcF s l < 65536 := by
  induction l generalizing s with
  | nil => exact hs
  | cons c l ih =>
    rw [crcF_cons]
    exact ih (crc1_lt hs (hl c (by simp))) (fun x hx => hl x (by simp [hx]))
theorem crc_lt {l : List Nat} (hl : By l) : crc l < 65536 := crcF_lt (by decide) hl
theorem crcF_inj {s t : Nat} {l : List Nat} (hs : s < 65536) (ht : t < 65536) (hl : By l) (h : crcF s l = crcF t l) : s = t := by
  induction l generalizing s t with
  | nil => exact h
  | cons c l ih =>
    rw [crcF_cons, crcF_cons] at h
    have hc := hl c (by simp)
    exact crc1_injS hs ht hc (ih (crc1_lt hs hc) (crc1_lt ht hc) (fun x hx => hl x (by simp [hx])) h)
theorem crcF_set {s : Nat} {l : List Nat} (hs : s < 65536) (hl : By l) {p v : Nat} (hv : v < 256) (hp : p < l.length) (h : crcF s (l.set p v) = crcF s l) : l[p]! = v := by
  induction l generalizing s p with
  | nil => simp at hp
  | cons c l ih =>
    have hc := hl c (by simp)
    have hl' : By l := fun x hx => hl x (by simp [hx])
    cases p with
    | zero =>
      rw [List.set_cons_zero, crcF_cons, crcF_cons] at h
      exact (crc1_injC hs hv hc (crcF_inj (crc1_lt hs hv) (crc1_lt hs hc) hl' h)).symm
    | succ p =>
      rw [List.set_cons_succ, crcF_cons, crcF_cons] at h
      have := ih (crc1_lt hs hc) hl' (by simpa using hp) h
      rw [← this]; simp
theorem crcF_append (s : Nat) (l m : List Nat) : crcF s (l ++ m) = crcF (crcF s l) m := by simp [crcF]

/-! ## Numbers and frames -/
/-- The number of some bytes. -/
def be (l : List Nat) : Nat := l.foldl (fun n c => n * 256 + c) 0
/-- The last k bytes of a number. -/
def bys (n : Nat) : Nat → List Nat
  | 0 => []
  | k + 1 => n / 256 ^ k % 256 :: bys n k
theorem bys_len (n k : Nat) : (bys n k).length = k := by induction k with | zero => rfl | succ k ih => simp [bys, ih]
theorem bys_by (n k : Nat) : By (bys n k) := by
  induction k with
  | zero => intro x hx; simp [bys] at hx
  | succ k ih =>
    intro x hx
    simp [bys] at hx
    rcases hx with rfl | hx
    · exact Nat.mod_lt _ (by decide)
    · exact ih x hx
def okK (t s : Int) : Bool := decide (0 ≤ t) && decide (t ≤ 65535) && decide (0 ≤ s) && decide (s ≤ 2147483647)
/-- Whether an event is valid. -/
def okE (e : Ev) : Bool :=
  okK e.kt e.ks && decide (1 ≤ e.em) && decide (e.em ≤ 2147483647) && decide (0 ≤ e.ti) && decide (e.ti ≤ 120968639) && decide (1 ≤ e.ki) && decide (e.ki ≤ 6) &&
    (if 5 ≤ e.ki then okK e.tt e.ts else decide (e.tt = 0) && decide (e.ts = 0))
theorem okE_bd {e : Ev} (h : okE e = true) : 0 ≤ e.kt ∧ e.kt ≤ 65535 ∧ 0 ≤ e.ks ∧ e.ks ≤ 2147483647 ∧ 1 ≤ e.em ∧ e.em ≤ 2147483647 ∧ 0 ≤ e.ti ∧ e.ti ≤ 120968639 ∧ 1 ≤ e.ki ∧ e.ki ≤ 6 ∧ 0 ≤ e.tt ∧ e.tt ≤ 65535 ∧ 0 ≤ e.ts ∧ e.ts ≤ 2147483647 := by
  unfold okE okK at h
  by_cases h5 : 5 ≤ e.ki
  · simp [h5] at h; omega
  · simp [h5] at h; omega
def frame22 (e : Ev) : List Nat := [193, e.ki.toNat] ++ bys e.kt.toNat 2 ++ bys e.ks.toNat 4 ++ bys e.em.toNat 4 ++ bys e.ti.toNat 4 ++ bys e.tt.toNat 2 ++ bys e.ts.toNat 4
def frame (e : Ev) : List Nat := frame22 e ++ bys (crc (frame22 e)) 2
theorem frame22_len (e : Ev) : (frame22 e).length = 22 := by simp [frame22, bys_len]
theorem frame_len (e : Ev) : (frame e).length = 24 := by simp [frame, frame22_len, bys_len]
theorem By.app {l m : List Nat} (h : By l) (k : By m) : By (l ++ m) := fun x hx => (List.mem_append.1 hx).elim (h x) (k x)
theorem frame22_by {e : Ev} (h : okE e = true) : By (frame22 e) := by
  have hb := okE_bd h
  unfold frame22
  refine By.app (By.app (By.app (By.app (By.app (By.app ?_ (bys_by _ _)) (bys_by _ _)) (bys_by _ _)) (bys_by _ _)) (bys_by _ _)) (bys_by _ _)
  intro x hx
  simp at hx
  omega
theorem frame_by {e : Ev} (h : okE e = true) : By (frame e) := (frame22_by h).app (bys_by _ _)
/-- A part of a list. -/
def sl (l : List Nat) (a b : Nat) : List Nat := (l.drop a).take (b - a)
def evOf (w : List Nat) : Ev := ⟨be (sl w 2 4), be (sl w 4 8), be (sl w 8 12), be (sl w 12 16), w[1]!, be (sl w 16 18), be (sl w 18 22)⟩
def rdB (w : List Nat) : Bool := decide (w[0]! = 193) && okE (evOf w) && decide (crc (sl w 0 22) = be (sl w 22 24))
/-- The event whose frame 24 bytes are. -/
def rd (w : List Nat) : Option Ev := if rdB w then some (evOf w) else none

theorem four (n : Nat) : be (bys n 4) = n % 4294967296 := by simp [bys, be]; omega
theorem two (n : Nat) : be (bys n 2) = n % 65536 := by simp [bys, be]; omega
theorem frame_ev {e : Ev} (h : okE e = true) : evOf (frame e) = e := by
  have hb := okE_bd h
  have q1 : sl (frame e) 2 4 = bys e.kt.toNat 2 := by simp [frame, frame22, sl, bys]
  have q2 : sl (frame e) 4 8 = bys e.ks.toNat 4 := by simp [frame, frame22, sl, bys]
  have q3 : sl (frame e) 8 12 = bys e.em.toNat 4 := by simp [frame, frame22, sl, bys]
  have q4 : sl (frame e) 12 16 = bys e.ti.toNat 4 := by simp [frame, frame22, sl, bys]
  have q5 : (frame e)[1]! = e.ki.toNat := by simp [frame, frame22, bys]
  have q6 : sl (frame e) 16 18 = bys e.tt.toNat 2 := by simp [frame, frame22, sl, bys]
  have q7 : sl (frame e) 18 22 = bys e.ts.toNat 4 := by simp [frame, frame22, sl, bys]
  apply Ev.ext' <;> simp only [evOf, q1, q2, q3, q4, q5, q6, q7, four, two] <;> omega
theorem frame_sum (e : Ev) : sl (frame e) 0 22 = frame22 e := by simp [frame, sl, frame22_len]
theorem frame_end (e : Ev) : sl (frame e) 22 24 = bys (crc (frame22 e)) 2 := by
  unfold sl frame
  rw [List.drop_left' (frame22_len e), List.take_of_length_le (by rw [bys_len]; decide)]
theorem frame_head (e : Ev) : (frame e)[0]! = 193 := by simp [frame, frame22]
theorem rd_frame {e : Ev} (h : okE e = true) : rd (frame e) = some e := by
  unfold rd rdB
  rw [frame_ev h, frame_sum, frame_end, frame_head, two, h, Nat.mod_eq_of_lt (crc_lt (frame22_by h))]
  simp
theorem rd_some {w : List Nat} {e : Ev} (h : rd w = some e) : w[0]! = 193 ∧ okE e = true ∧ evOf w = e ∧ crc (sl w 0 22) = be (sl w 22 24) := by
  unfold rd rdB at h
  split at h
  · rename_i hc
    injection h with h
    subst h
    rw [Bool.and_eq_true, Bool.and_eq_true, decide_eq_true_eq, decide_eq_true_eq] at hc
    exact ⟨hc.1.1, hc.1.2, rfl, hc.2⟩
  · cases h
theorem bys_be4 (a b c d : Nat) (ha : a < 256) (hb : b < 256) (hc : c < 256) (hd : d < 256) : bys (be [a, b, c, d]) 4 = [a, b, c, d] := by
  simp [bys, be]; omega
theorem bys_be2 (a b : Nat) (ha : a < 256) (hb : b < 256) : bys (be [a, b]) 2 = [a, b] := by
  simp [bys, be]; omega
theorem bys_be2' {l : List Nat} (hl : l.length = 2) (h : By l) : bys (be l) 2 = l := by
  match l, hl with
  | [a, b], _ => exact bys_be2 a b (h a (by simp)) (h b (by simp))
theorem bys_be4' {l : List Nat} (hl : l.length = 4) (h : By l) : bys (be l) 4 = l := by
  match l, hl with
  | [a, b, c, d], _ => exact bys_be4 a b c d (h a (by simp)) (h b (by simp)) (h c (by simp)) (h d (by simp))
theorem sl_len (l : List Nat) (a b : Nat) (h : b ≤ l.length) : (sl l a b).length = b - a := by unfold sl; rw [List.length_take, List.length_drop]; omega
theorem sl_by {l : List Nat} (h : By l) (a b : Nat) : By (sl l a b) := fun x hx => h x (List.mem_of_mem_drop (List.mem_of_mem_take hx))
theorem sl_drop (l : List Nat) (a b : Nat) (h : a ≤ b) : sl l a b ++ l.drop b = l.drop a := by
  unfold sl
  rw [show l.drop b = (l.drop a).drop (b - a) by rw [List.drop_drop]; congr 1; omega, List.take_append_drop]
theorem head2 {w : List Nat} (h : 2 ≤ w.length) : w = [w[0]!, w[1]!] ++ w.drop 2 := by
  match w, h with
  | a :: b :: l, _ => rfl
theorem frame_rd {w : List Nat} {e : Ev} (hw : w.length = 24) (hb : By w) (h : rd w = some e) : w = frame e := by
  obtain ⟨h0, h1, h2, h3⟩ := rd_some h
  have p1 : e.ki.toNat = w[1]! := by subst h2; rfl
  have p2 : bys e.kt.toNat 2 = sl w 2 4 := by subst h2; exact bys_be2' (sl_len _ _ _ (by omega)) (sl_by hb _ _)
  have p3 : bys e.ks.toNat 4 = sl w 4 8 := by subst h2; exact bys_be4' (sl_len _ _ _ (by omega)) (sl_by hb _ _)
  have p4 : bys e.em.toNat 4 = sl w 8 12 := by subst h2; exact bys_be4' (sl_len _ _ _ (by omega)) (sl_by hb _ _)
  have p5 : bys e.ti.toNat 4 = sl w 12 16 := by subst h2; exact bys_be4' (sl_len _ _ _ (by omega)) (sl_by hb _ _)
  have p6 : bys e.tt.toNat 2 = sl w 16 18 := by subst h2; exact bys_be2' (sl_len _ _ _ (by omega)) (sl_by hb _ _)
  have p7 : bys e.ts.toNat 4 = sl w 18 22 := by subst h2; exact bys_be4' (sl_len _ _ _ (by omega)) (sl_by hb _ _)
  have q : w = frame22 e ++ w.drop 22 := by
    unfold frame22
    rw [p1, p2, p3, p4, p5, p6, p7, ← h0]
    simp only [List.append_assoc]
    rw [sl_drop w 18 22 (by decide), sl_drop w 16 18 (by decide), sl_drop w 12 16 (by decide), sl_drop w 8 12 (by decide), sl_drop w 4 8 (by decide), sl_drop w 2 4 (by decide)]
    exact head2 (by omega)
  have q2 : sl w 0 22 = frame22 e := by
    rw [q]; unfold sl; rw [List.drop_zero, List.take_left' (frame22_len e)]
  have q3 : bys (crc (frame22 e)) 2 = sl w 22 24 := by
    rw [← q2, h3]; exact bys_be2' (sl_len _ _ _ (by omega)) (sl_by hb _ _)
  unfold frame
  rw [q3]
  have q4 : sl w 22 24 = w.drop 22 := by unfold sl; rw [List.take_of_length_le (by rw [List.length_drop]; omega)]
  rw [q4]
  exact q

/-! ## The scanner -/
/-- Events of a list and the number of bytes read, without gaps. -/
def sc : Nat → List Nat → List Ev × Nat
  | 0, _ => ([], 0)
  | f + 1, l => if l.length < 24 then ([], 0) else
    match rd (l.take 24) with
    | some e => (e :: (sc f (l.drop 24)).1, (sc f (l.drop 24)).2 + 24)
    | none => ((sc f (l.drop 1)).1, (sc f (l.drop 1)).2 + 1)
/-- A further byte of a gap. -/
def addG (gs : List (Nat × Nat)) (at_ : Nat) : List (Nat × Nat) :=
  match gs.getLast? with
  | some g => if g.2 = at_ then gs.dropLast ++ [(g.1, at_ + 1)] else gs ++ [(at_, at_ + 1)]
  | none => [(at_, at_ + 1)]
/-- The scanner, as it goes. -/
def go (bs : List Nat) : Nat → Nat → List Ev → List (Nat × Nat) → List Ev × List (Nat × Nat) × Nat
  | 0, at_, es, gs => (es, gs, at_)
  | f + 1, at_, es, gs => if bs.length < at_ + 24 then (es, gs, at_) else
    match rd (sl bs at_ (at_ + 24)) with
    | some e => go bs f (at_ + 24) (es ++ [e]) gs
    | none => go bs f (at_ + 1) es (addG gs at_)
def dec (bs : List Nat) : List Ev × List (Nat × Nat) × Nat := go bs (bs.length + 1) 0 [] []

theorem go_end {bs : List Nat} {f at_ : Nat} {es : List Ev} {gs : List (Nat × Nat)} (h : bs.length < at_ + 24) : go bs f at_ es gs = (es, gs, at_) := by
  cases f with
  | zero => rfl
  | succ f => unfold go; rw [if_pos h]
theorem go_some {bs : List Nat} {f at_ : Nat} {es : List Ev} {gs : List (Nat × Nat)} {e : Ev} (h : at_ + 24 ≤ bs.length) (hr : rd (sl bs at_ (at_ + 24)) = some e) : go bs (f + 1) at_ es gs = go bs f (at_ + 24) (es ++ [e]) gs := by
  rw [go, if_neg (by omega), hr]
theorem go_none {bs : List Nat} {f at_ : Nat} {es : List Ev} {gs : List (Nat × Nat)} (h : at_ + 24 ≤ bs.length) (hr : rd (sl bs at_ (at_ + 24)) = none) : go bs (f + 1) at_ es gs = go bs f (at_ + 1) es (addG gs at_) := by
  rw [go, if_neg (by omega), hr]

theorem sl_win (bs : List Nat) (a : Nat) : sl bs a (a + 24) = (bs.drop a).take 24 := by unfold sl; rw [Nat.add_sub_cancel_left]
theorem go_sc (bs : List Nat) (f at_ : Nat) (es : List Ev) (gs : List (Nat × Nat)) : (go bs f at_ es gs).1 = es ++ (sc f (bs.drop at_)).1 ∧ (go bs f at_ es gs).2.2 = at_ + (sc f (bs.drop at_)).2 := by
  induction f generalizing at_ es gs with
  | zero => simp [go, sc]
  | succ f ih =>
    unfold go sc
    rw [List.length_drop]
    by_cases h : bs.length < at_ + 24
    · rw [if_pos h, if_pos (by omega)]; simp
    · rw [if_neg h, if_neg (by omega), sl_win]
      cases hr : rd ((bs.drop at_).take 24) with
      | some e =>
        obtain ⟨i1, i2⟩ := ih (at_ + 24) (es ++ [e]) gs
        simp only [i1, i2, List.drop_drop, List.append_assoc]
        exact ⟨by simp, by omega⟩
      | none =>
        obtain ⟨i1, i2⟩ := ih (at_ + 1) es (addG gs at_)
        simp only [i1, i2, List.drop_drop]
        exact ⟨by simp, by omega⟩
theorem sc_mono (f g : Nat) (l : List Nat) (hf : l.length ≤ f) (hg : l.length ≤ g) : sc f l = sc g l := by
  induction f generalizing g l with
  | zero =>
    have : l = [] := List.length_eq_zero_iff.1 (by omega)
    subst this
    cases g <;> simp [sc]
  | succ f ih =>
    cases g with
    | zero =>
      have : l = [] := List.length_eq_zero_iff.1 (by omega)
      subst this
      simp [sc]
    | succ g =>
      unfold sc
      by_cases h : l.length < 24
      · rw [if_pos h, if_pos h]
      · rw [if_neg h, if_neg h, ih g (l.drop 24) (by rw [List.length_drop]; omega) (by rw [List.length_drop]; omega), ih g (l.drop 1) (by rw [List.length_drop]; omega) (by rw [List.length_drop]; omega)]
def scan (l : List Nat) : List Ev × Nat := sc l.length l
theorem scan_short {l : List Nat} (h : l.length < 24) : scan l = ([], 0) := by
  unfold scan
  cases hl : l.length with
  | zero => rfl
  | succ n => unfold sc; rw [if_pos h]
theorem scan_some {l : List Nat} {e : Ev} (h : 24 ≤ l.length) (hr : rd (l.take 24) = some e) : scan l = (e :: (scan (l.drop 24)).1, (scan (l.drop 24)).2 + 24) := by
  unfold scan
  obtain ⟨n, hn⟩ : ∃ n, l.length = n + 1 := ⟨l.length - 1, by omega⟩
  rw [hn, sc, if_neg (by omega), hr, sc_mono n (l.drop 24).length (l.drop 24) (by rw [List.length_drop]; omega) (Nat.le_refl _)]
theorem scan_none {l : List Nat} (h : 24 ≤ l.length) (hr : rd (l.take 24) = none) : scan l = ((scan (l.drop 1)).1, (scan (l.drop 1)).2 + 1) := by
  unfold scan
  obtain ⟨n, hn⟩ : ∃ n, l.length = n + 1 := ⟨l.length - 1, by omega⟩
  rw [hn, sc, if_neg (by omega), hr, sc_mono n (l.drop 1).length (l.drop 1) (by rw [List.length_drop]; omega) (Nat.le_refl _)]
theorem dec_scan (bs : List Nat) : (dec bs).1 = (scan bs).1 ∧ (dec bs).2.2 = (scan bs).2 := by
  obtain ⟨h1, h2⟩ := go_sc bs (bs.length + 1) 0 [] []
  unfold dec scan
  rw [h1, h2, List.drop_zero, sc_mono (bs.length + 1) bs.length bs (by omega) (Nat.le_refl _)]
  simp

/-- The bytes that are read are at most those that are there, and fewer than 24 are left. -/
theorem scan_rest (l : List Nat) : (scan l).2 ≤ l.length ∧ l.length - (scan l).2 < 24 := by
  generalize hn : l.length = n
  induction n using Nat.strongRecOn generalizing l with
  | ind n ih =>
    by_cases h : l.length < 24
    · rw [scan_short h]; simp; omega
    · cases hr : rd (l.take 24) with
      | some e =>
        rw [scan_some (by omega) hr]
        have := ih (l.drop 24).length (by rw [List.length_drop]; omega) _ rfl
        rw [List.length_drop] at this
        simp only
        omega
      | none =>
        rw [scan_none (by omega) hr]
        have := ih (l.drop 1).length (by rw [List.length_drop]; omega) _ rfl
        rw [List.length_drop] at this
        simp only
        omega

/-- Decoding in two parts. -/
theorem scan_divide (l : List Nat) (c : Nat) (hc : c ≤ l.length) :
    (scan l).1 = (scan (l.take c)).1 ++ (scan (l.drop (scan (l.take c)).2)).1 ∧ (scan l).2 = (scan (l.take c)).2 + (scan (l.drop (scan (l.take c)).2)).2 := by
  generalize hn : c = n
  induction n using Nat.strongRecOn generalizing l c with
  | ind n ih =>
    subst hn
    have lt : (l.take c).length = c := by rw [List.length_take]; omega
    by_cases h : c < 24
    · rw [scan_short (l := l.take c) (by omega)]; simp
    · have hw : (l.take c).take 24 = l.take 24 := by rw [List.take_take]; congr 1; omega
      cases hr : rd (l.take 24) with
      | some e =>
        rw [scan_some (l := l.take c) (by omega) (by rw [hw]; exact hr), scan_some (l := l) (by omega) hr, List.drop_take]
        obtain ⟨i1, i2⟩ := ih (c - 24) (by omega) (l.drop 24) (c - 24) (by rw [List.length_drop]; omega) rfl
        rw [List.drop_drop] at i1 i2
        simp only
        rw [i1, i2, Nat.add_comm 24]
        exact ⟨by simp, by omega⟩
      | none =>
        rw [scan_none (l := l.take c) (by omega) (by rw [hw]; exact hr), scan_none (l := l) (by omega) hr, List.drop_take]
        obtain ⟨i1, i2⟩ := ih (c - 1) (by omega) (l.drop 1) (c - 1) (by rw [List.length_drop]; omega) rfl
        rw [List.drop_drop] at i1 i2
        simp only
        rw [i1, i2, Nat.add_comm 1]
        exact ⟨rfl, by omega⟩

/-- Frames, one behind the other. -/
def frs : List Ev → List Nat
  | [] => []
  | e :: es => frame e ++ frs es
theorem frs_app (a b : List Ev) : frs (a ++ b) = frs a ++ frs b := by induction a with | nil => rfl | cons e a ih => simp [frs, ih]
theorem frs_len (a : List Ev) : (frs a).length = a.length * 24 := by induction a with | nil => rfl | cons e a ih => simp [frs, frame_len, ih]; omega
theorem frs_by {a : List Ev} (h : ∀ e ∈ a, okE e = true) : By (frs a) := by
  induction a with
  | nil => intro x hx; simp [frs] at hx
  | cons e a ih => exact (frame_by (h e (by simp))).app (ih fun x hx => h x (by simp [hx]))
theorem go_frs (bs : List Nat) (es : List Ev) (f at_ : Nat) (xs : List Ev) (gs : List (Nat × Nat)) (he : ∀ e ∈ es, okE e = true) (hd : bs.drop at_ = frs es) (hl : bs.length = at_ + es.length * 24) (hf : es.length ≤ f) :
    go bs f at_ xs gs = (xs ++ es, gs, bs.length) := by
  induction es generalizing f at_ xs with
  | nil => rw [go_end (by simp at hl; omega)]; simp at hl; simp [hl]
  | cons e es ih =>
    obtain ⟨f, rfl⟩ : ∃ g, f = g + 1 := ⟨f - 1, by simp at hf; omega⟩
    simp at hl hf
    have hr : rd (sl bs at_ (at_ + 24)) = some e := by
      rw [sl_win, hd, frs, List.take_left' (frame_len e)]
      exact rd_frame (he e (by simp))
    rw [go_some (by omega) hr, ih f (at_ + 24) (xs ++ [e]) (fun x hx => he x (by simp [hx])) (by rw [← List.drop_drop, hd, frs, List.drop_left' (frame_len e)]) (by omega) (by omega)]
    simp
theorem dec_frs {es : List Ev} (he : ∀ e ∈ es, okE e = true) : dec (frs es) = (es, [], es.length * 24) := by
  unfold dec
  rw [go_frs (frs es) es _ 0 [] [] he (by simp) (by rw [frs_len]; omega) (by rw [frs_len]; omega), frs_len]
  simp

/-! ## Gaps -/
structure GapI (es : List Ev) (gs : List (Nat × Nat)) (at_ : Nat) : Prop where
  sum : 24 * es.length + (gs.map fun g => g.2 - g.1).sum = at_
  pos : ∀ i, i < gs.length → (gs[i]!).1 < (gs[i]!).2 ∧ (gs[i]!).2 ≤ at_
  asc : ∀ i, i + 1 < gs.length → (gs[i]!).2 < (gs[i + 1]!).1
theorem GapI.ev {es : List Ev} {gs : List (Nat × Nat)} {at_ : Nat} (h : GapI es gs at_) (e : Ev) : GapI (es ++ [e]) gs (at_ + 24) :=
  ⟨by have := h.sum; simp; omega, fun i hi => ⟨(h.pos i hi).1, by have := (h.pos i hi).2; omega⟩, h.asc⟩
theorem get_app_l {α : Type} [Inhabited α] (l m : List α) (i : Nat) (h : i < l.length) : (l ++ m)[i]! = l[i]! := by
  rw [getElem!_pos (l ++ m) i (by simp; omega), getElem!_pos l i h, List.getElem_append_left h]
theorem get_app_r {α : Type} [Inhabited α] (l : List α) (x : α) (i : Nat) (h : i = l.length) : (l ++ [x])[i]! = x := by
  subst h
  rw [getElem!_pos (l ++ [x]) l.length (by simp)]; simp
theorem GapI.push {es : List Ev} {gs : List (Nat × Nat)} {at_ : Nat} (h : GapI es gs at_) (hl : ∀ i, i + 1 = gs.length → (gs[i]!).2 ≠ at_) : GapI es (gs ++ [(at_, at_ + 1)]) (at_ + 1) := by
  refine ⟨by have := h.sum; simp; omega, fun i hi => ?_, fun i hi => ?_⟩
  · by_cases hlt : i < gs.length
    · rw [get_app_l _ _ _ hlt]; exact ⟨(h.pos i hlt).1, by have := (h.pos i hlt).2; omega⟩
    · simp at hi
      rw [get_app_r _ _ _ (by omega)]; exact ⟨by simp, by simp⟩
  · simp at hi
    by_cases hlt : i + 1 < gs.length
    · rw [get_app_l _ _ _ hlt, get_app_l _ _ _ (by omega)]; exact h.asc i hlt
    · rw [get_app_r _ _ (i + 1) (by omega), get_app_l _ _ _ (by omega)]
      have := (h.pos i (by omega)).2
      have := hl i (by omega)
      show _ < at_
      omega
theorem GapI.grow {es : List Ev} {gs : List (Nat × Nat)} {a at_ : Nat} (h : GapI es (gs ++ [(a, at_)]) at_) : GapI es (gs ++ [(a, at_ + 1)]) (at_ + 1) := by
  have hp := h.pos gs.length (by simp)
  rw [get_app_r _ _ _ rfl] at hp
  simp only at hp
  refine ⟨by have := h.sum; simp at this ⊢; omega, fun i hi => ?_, fun i hi => ?_⟩
  · by_cases hlt : i < gs.length
    · rw [get_app_l _ _ _ hlt]
      have := h.pos i (by simp; omega)
      rw [get_app_l _ _ _ hlt] at this
      exact ⟨this.1, by omega⟩
    · simp at hi
      rw [get_app_r _ _ _ (by omega)]; exact ⟨by show a < at_ + 1; omega, by simp⟩
  · have := h.asc i (by simpa using hi)
    simp at hi
    rw [get_app_l _ _ _ (by omega)] at this ⊢
    by_cases hlt : i + 1 < gs.length
    · rw [get_app_l _ _ _ hlt] at this ⊢; exact this
    · rw [get_app_r _ _ _ (by omega)] at this ⊢; exact this
theorem last_split {α : Type} {l : List α} {x : α} (h : l.getLast? = some x) : l = l.dropLast ++ [x] := by
  cases l with
  | nil => simp at h
  | cons a l =>
    rw [List.getLast?_eq_some_getLast (by simp)] at h
    injection h with h
    rw [← h, List.dropLast_concat_getLast]
theorem GapI.gap {es : List Ev} {gs : List (Nat × Nat)} {at_ : Nat} (h : GapI es gs at_) : GapI es (addG gs at_) (at_ + 1) := by
  unfold addG
  cases hl : gs.getLast? with
  | none =>
    have : gs = [] := List.getLast?_eq_none_iff.1 hl
    subst this
    simpa using GapI.push h (fun i hi => by simp at hi)
  | some g =>
    obtain ⟨a, b⟩ := g
    have hs := last_split hl
    simp only
    split
    · rename_i hb
      subst hb
      rw [hs] at h
      exact h.grow
    · rename_i hb
      refine h.push fun i hi => ?_
      rw [hs, get_app_r _ _ i (by rw [List.length_dropLast]; omega)]
      exact hb
theorem go_gap (bs : List Nat) (f at_ : Nat) (es : List Ev) (gs : List (Nat × Nat)) (h : GapI es gs at_) : GapI (go bs f at_ es gs).1 (go bs f at_ es gs).2.1 (go bs f at_ es gs).2.2 := by
  induction f generalizing at_ es gs with
  | zero => exact h
  | succ f ih =>
    unfold go
    by_cases hl : bs.length < at_ + 24
    · rw [if_pos hl]; exact h
    · rw [if_neg hl]
      cases hr : rd (sl bs at_ (at_ + 24)) with
      | some e => exact ih _ _ _ (h.ev e)
      | none => exact ih _ _ _ h.gap
theorem dec_gap (bs : List Nat) : GapI (dec bs).1 (dec bs).2.1 (dec bs).2.2 := go_gap bs _ 0 [] [] ⟨rfl, fun i hi => by simp at hi, fun i hi => by simp at hi⟩

/-! ## A changed byte -/
theorem set_out {l : List Nat} {p v : Nat} (hv : v < 256) (hl : By l) : By (l.set p v) := by
  intro x hx
  rcases List.mem_or_eq_of_mem_set hx with h | rfl
  · exact hl x h
  · exact hv
theorem sl_set_out (l : List Nat) (p v a b : Nat) (h : p < a ∨ b ≤ p) : sl (l.set p v) a b = sl l a b := by
  unfold sl
  rcases h with h | h
  · rw [List.drop_set_of_lt h]
  · by_cases hab : a ≤ b
    · rw [List.drop_set, if_neg (by omega), List.take_set, List.set_eq_of_length_le (by rw [List.length_take]; omega)]
    · rw [show b - a = 0 by omega]; simp
theorem damaged {e : Ev} (h : okE e = true) {p v : Nat} (hp : p < 24) (hv : v < 256) (hne : (frame e)[p]! ≠ v) : rd ((frame e).set p v) = none := by
  cases hr : rd ((frame e).set p v) with
  | none => rfl
  | some e' =>
    exfalso
    obtain ⟨_, _, _, h3⟩ := rd_some hr
    by_cases hp2 : p < 22
    · rw [sl_set_out _ p v 22 24 (.inl hp2), frame_end, two, Nat.mod_eq_of_lt (crc_lt (frame22_by h))] at h3
      have e1 : sl ((frame e).set p v) 0 22 = (frame22 e).set p v := by
        rw [← frame_sum]
        simp [sl, List.take_set]
      rw [e1] at h3
      have := crcF_set (by decide) (frame22_by h) hv (by rw [frame22_len]; exact hp2) h3
      apply hne
      unfold frame
      rw [get_app_l _ _ _ (by rw [frame22_len]; exact hp2)]
      exact this
    · have hw : (frame e).set p v = frame e' := frame_rd (by rw [List.length_set, frame_len]) (set_out hv (frame_by h)) hr
      have e1 : frame22 e' = frame22 e := by rw [← frame_sum, ← hw, sl_set_out _ p v 0 22 (.inr (by omega)), frame_sum]
      have e2 : frame e' = frame e := by unfold frame; rw [e1]
      rw [e2] at hw
      apply hne
      rw [← hw, getElem!_pos _ p (by rw [List.length_set, frame_len]; exact hp)]
      simp
theorem sum_set (l : List Nat) (p v : Nat) (hp : p < l.length) : (l.set p v).sum + l[p]! = l.sum + v := by
  induction l generalizing p with
  | nil => simp at hp
  | cons c l ih =>
    cases p with
    | zero => simp; omega
    | succ p => have := ih p (by simpa using hp); simp at this ⊢; omega
/-- No window that straddles a damaged frame and the frame itself is the frame. -/
theorem straddle {e : Ev} (h : okE e = true) {p v d : Nat} (hp : p < 24) (hne : (frame e)[p]! ≠ v) (hd : 1 ≤ d) (hd2 : d < 24) : sl ((frame e).set p v ++ frame e) d (d + 24) ≠ frame e := by
  intro hw
  have hx := frame_len e
  have x8 : (frame e)[8]! ≠ 193 := by
    have hb := okE_bd h
    simp [frame, frame22, bys]; omega
  have x12 : (frame e)[12]! ≠ 193 := by
    have hb := okE_bd h
    simp [frame, frame22, bys]; omega
  have x0 := frame_head e
  generalize frame e = x at *
  have hw2 : (x.set p v).drop d ++ x.take d = x := by
    rw [sl_win, List.drop_append_of_le_length (by rw [List.length_set]; omega), List.take_append, List.take_of_length_le (by rw [List.length_drop, List.length_set]; omega), List.length_drop, List.length_set, hx, show 24 - (24 - d) = d by omega] at hw
    exact hw
  have hpd : p < d := by
    apply Decidable.byContradiction
    intro hge
    rw [List.drop_set, if_neg (by omega)] at hw2
    have s1 := congrArg List.sum hw2
    rw [List.sum_append] at s1
    have s2 : (x.take d).sum + (x.drop d).sum = x.sum := by rw [← List.sum_append, List.take_append_drop]
    have s3 := sum_set (x.drop d) (p - d) v (by rw [List.length_drop]; omega)
    have s4 : (x.drop d)[p - d]! = x[p]! := by
      rw [getElem!_pos _ _ (by rw [List.length_drop]; omega), getElem!_pos _ _ (by omega), List.getElem_drop]
      congr 1; omega
    rw [s4] at s3
    omega
  rw [List.drop_set_of_lt hpd] at hw2
  have rot : ∀ i, i < 24 → x[i]! = x[(i + d) % 24]! := by
    intro i hi
    rw [getElem!_pos x i (by omega), getElem!_pos x _ (by rw [hx]; exact Nat.mod_lt _ (by decide))]
    have : x[i]'(by omega) = (x.drop d ++ x.take d)[i]'(by rw [hw2]; omega) := by congr 1; exact hw2.symm
    rw [this]
    by_cases hi2 : i < 24 - d
    · rw [List.getElem_append_left (by rw [List.length_drop]; omega), List.getElem_drop]
      congr 1; omega
    · rw [List.getElem_append_right (by rw [List.length_drop]; omega), List.getElem_take]
      congr 1; rw [List.length_drop]; omega
  have many : ∀ k, x[0]! = x[(k * d) % 24]! := by
    intro k
    induction k with
    | zero => simp
    | succ k ih => rw [ih, rot _ (Nat.mod_lt _ (by decide))]; congr 1; rw [Nat.succ_mul]; omega
  have hit : ∃ k, (k * d) % 24 = 8 ∨ (k * d) % 24 = 12 := by
    have : ∀ d : Fin 24, 1 ≤ d.val → ∃ k : Fin 24, (k.val * d.val) % 24 = 8 ∨ (k.val * d.val) % 24 = 12 := by decide
    obtain ⟨k, hk⟩ := this ⟨d, hd2⟩ hd
    exact ⟨k.val, hk⟩
  obtain ⟨k, hk⟩ := hit
  have := many k
  rcases hk with hk | hk <;> rw [hk] at this <;> omega
/-- What decoding a damaged frame and the frame behind it gives. -/
theorem damage_go {e : Ev} (h : okE e = true) {p v : Nat} (hp : p < 24) (hv : v < 256) (hne : (frame e)[p]! ≠ v) (at_ f : Nat) (gs : List (Nat × Nat)) (ha : at_ ≤ 24) (hf : 25 ≤ at_ + f) :
    ∃ m ms, (go ((frame e).set p v ++ frame e) f at_ [] gs).1 = m :: ms ∧ (ms ≠ [] ∨ (m = e ∧ (go ((frame e).set p v ++ frame e) f at_ [] gs).2.2 = 48) ∨ m ≠ e) := by
  have hl : ((frame e).set p v ++ frame e).length = 48 := by rw [List.length_append, List.length_set, frame_len]
  induction f generalizing at_ gs with
  | zero => omega
  | succ f ih =>
    by_cases h24 : at_ = 24
    · subst h24
      have hr : rd (sl ((frame e).set p v ++ frame e) 24 (24 + 24)) = some e := by
        rw [sl_win, List.drop_left' (by rw [List.length_set, frame_len]), List.take_of_length_le (by rw [frame_len]; omega)]
        exact rd_frame h
      rw [go_some (by omega) hr, go_end (by rw [hl]; omega)]
      exact ⟨e, [], rfl, .inr (.inl ⟨rfl, rfl⟩)⟩
    · cases hr : rd (sl ((frame e).set p v ++ frame e) at_ (at_ + 24)) with
      | none =>
        rw [go_none (by omega) hr]
        exact ih (at_ + 1) _ (by omega) (by omega)
      | some e' =>
        rw [go_some (by omega) hr]
        refine ⟨e', _, by rw [(go_sc _ _ _ _ _).1]; rfl, .inr (.inr fun he => ?_)⟩
        subst he
        by_cases h0 : at_ = 0
        · subst h0
          rw [sl_win, List.drop_zero, List.take_left' (by rw [List.length_set, frame_len]), damaged h hp hv hne] at hr
          cases hr
        · have hby : By (sl ((frame e').set p v ++ frame e') at_ (at_ + 24)) := fun x hx => ((set_out hv (frame_by h)).app (frame_by h)) x (List.mem_of_mem_drop (List.mem_of_mem_take hx))
          exact straddle h hp hne (by omega) (by omega) (frame_rd (by rw [sl_win, List.length_take, List.length_drop, hl]; omega) hby hr)
theorem dec_damaged {e : Ev} (h : okE e = true) {p v : Nat} (hp : p < 24) (hv : v < 256) (hne : (frame e)[p]! ≠ v) : dec ((frame e).set p v) = ([], [(0, 1)], 1) := by
  unfold dec
  have hl : ((frame e).set p v).length = 24 := by rw [List.length_set, frame_len]
  rw [hl, go_none (by omega) (by rw [sl_win, List.drop_zero, List.take_of_length_le (by omega)]; exact damaged h hp hv hne), go_end (by omega)]
  rfl
end Go.Proofs.Ytebdldinlodgpaa.Rc
