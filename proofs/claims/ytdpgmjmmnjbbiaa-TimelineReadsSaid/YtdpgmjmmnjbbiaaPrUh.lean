/-
  Layer 6 (timeline): the contract of slices.Concat at two lists of changes, and of Merge. Conditions: the lists read as changes.
-/
import Derived.Test.YtdpgmjmmnjbbiaaPrUg
import Derived.Test.YtdpgmjmmnjbbiaaShelr
import Derived.Laws.AppendOwnNone
namespace Go.Proofs.Ytdpgmjmmnjbbiaa.Tl
open Go Go.RowKit Go.Lib Go.Sort Go.Shelf Go.Proofs Go.Proofs.Ytdpgmjmmnjbbiaa Go.Proofs.Ytdpgmjmmnjbbiaa.Tp
set_option linter.unusedVariables false

/-- An append of a row that may be nothing to a row of one's own. -/
theorem append_opt {P : Program} (w : World) {ops : Array Oper} {rest : List Oper} {o : Oper} {a : Act} {Q : Exit → Act → World → Prop} (hgd : o.guard = none) (s x : Operand) (t : TypeId)
    (ho : o.op = .call { callee := .builtin .append, args := #[s, x], argTypes := #[t, t] })
    (base : Nat) (e : TypeId) (i : TypeInfo) (z : Value) (size bytes : Nat) (ht : P.underlying t = some (.slice e)) (hi : P.info? e = some i) (hz : i.zero = some z)
    (hsize : i.size = size) (hby : i.bytes = bytes) (hzs : z.cells.size = size) (hsz : 0 < size)
    (v : Value) (n : Nat) (xs : List Value) (hs : a.eval s = v) (hown : w.ownsRow base e size v n xs)
    (A : Option Addr) (m c : Nat) (news : List Value) (hx : a.eval x = .slice A m c) (hl : news.length = m * size) (h0 : A = none → m = 0 ∧ c = 0) (hnews : ∀ ad, A = some ad → ∀ j u, news[j]? = some u → w.cell? (ad.add j) = some u) (h1 : ∀ u ∈ news, u.oneCell' = true)
    (h63 : n + m ≤ maxLen) (hbytes : (n + m) * bytes ≤ 140737488355328) (hbase : base ≤ w.heap.size)
    (h : ∀ v' w', w'.ownsRow base e size v' (n + m) (xs ++ news) → w.grownBy w' v.ownBlock → (v' = .slice none 0 0 ↔ v = .slice none 0 0 ∧ m = 0) → wpList P ops Q rest (a.put o.dst v') w') : wpList P ops Q (o :: rest) a w := by
  rcases A with _ | ad
  · obtain ⟨rfl, rfl⟩ := h0 rfl
    obtain rfl : news = [] := List.length_eq_zero_iff.mp (by rw [hl]; omega)
    exact wpList_append_own_none hgd s x t ho base e i size ht hi v n xs hs hown hx (h v w (by simpa using hown) (World.grownBy.refl _ _) (by simp))
  · exact wpList_append_own w hgd s x t ho base e i z size bytes ht hi hz hsize hby hzs hsz v n xs hs hown ad m c news hx hl (hnews ad rfl) h1 h63 hbytes hbase h
/-- What a list holds, as append asks it. -/
theorem Lst.news {w : World} {a : Option Addr} {n cap : Nat} {cs : List Chg} (h : Lst w a n cap cs) : (fl cs).length = n * 4 ∧ ∀ ad, a = some ad → ∀ j u, (fl cs)[j]? = some u → w.cell? (ad.add j) = some u := by
  refine ⟨by rw [fl_len, h.1.1], fun ad ha j u hj => ?_⟩
  have hp : 0 < n := by
    have := (List.getElem?_eq_some_iff.1 hj).1
    rw [fl_len, h.1.1] at this; omega
  obtain ⟨y, hy, _, hc⟩ := h.1.2 hp
  rw [ha] at hy; injection hy with hy; subst hy
  exact cells_row h.1.1 hc j u hj
/-- A row of the call's own, or nothing, while it grows. -/
structure OwnG (w0 : World) (v : Value) (l : List Chg) (W : World) : Prop where
  row : W.ownsRow w0.heap.size 42 4 v l.length (fl l)
  below : Below w0.heap.size w0 W
theorem OwnG.grown {w0 W W' : World} {v v' : Value} {l m : List Chg} (h : OwnG w0 v l W) (ho : W'.ownsRow w0.heap.size 42 4 v' (l.length + m.length) (fl l ++ fl m)) (hg : W.grownBy W' v.ownBlock) : OwnG w0 v' (l ++ m) W' :=
  ⟨by rw [List.length_append, fl_app]; exact ho, h.below.grown hg h.below.size fun g hg' => (h.row.lt g hg').1⟩
theorem OwnG.more {w0 W W' : World} {v : Value} {l : List Chg} (h : OwnG w0 v l W) (hb : Below W.heap.size W W') : OwnG w0 v l W' := by
  refine ⟨⟨h.row.1, ?_⟩, h.below.trans (hb.mono h.below.size)⟩
  rcases h.row.2 with h0 | ⟨g, cap, cur, e, h1, h2, h3⟩
  · exact .inl h0
  · exact .inr ⟨g, cap, cur, e, h1, (hb.block g (Array.getElem?_eq_some_iff.1 h2).1).trans h2, h3⟩
theorem OwnG.nil (w : World) : OwnG w (.slice none 0 0) [] w := ⟨World.ownsRow_nil _ _ _ _, Below.refl _ _⟩
/-- A list of the call's own, behind a call: nothing, or a row. -/
def OwnO (l : List Chg) (w : World) (e : Ending) (w' : World) : Prop := ∃ a cap, e = .returned (.slice a l.length cap) ∧ ((a = none ∧ l = [] ∧ cap = 0) ∨ ∃ g, a = some ⟨g, 0, none⟩ ∧ RowC w' g l.toArray ∧ w.heap.size ≤ g ∧ g < w'.heap.size ∧ l.length ≤ cap) ∧ Below w.heap.size w w'
theorem OwnG.done {w W : World} {v : Value} {l : List Chg} (h : OwnG w v l W) : OwnO l w (.returned v) W := by
  rcases h.row.2 with ⟨rfl, h0⟩ | ⟨g, cap, cur, rfl, h1, h2, h3, _⟩
  · exact ⟨none, 0, by rw [h0], .inl ⟨rfl, List.length_eq_zero_iff.1 h0, rfl⟩, h.below⟩
  · obtain ⟨r1, r2, r3, r4⟩ := own_row h.row rfl
    exact ⟨_, cap, rfl, .inr ⟨g, rfl, r1, r2, r3, r4⟩, h.below⟩
theorem OwnO.lst {l : List Chg} {w w' : World} {a : Option Addr} {cap : Nat} (h : (a = none ∧ l = [] ∧ cap = 0) ∨ ∃ g, a = some ⟨g, 0, none⟩ ∧ RowC w' g l.toArray ∧ w.heap.size ≤ g ∧ g < w'.heap.size ∧ l.length ≤ cap) (hl : l.length ≤ 9223372036854775807) : Lst w' a l.length cap l := by
  rcases h with ⟨rfl, rfl, rfl⟩ | ⟨g, rfl, hr, h1, h2, h3⟩
  · exact ⟨⟨rfl, fun h => absurd h (by decide)⟩, fun _ => ⟨rfl, rfl⟩, by simp⟩
  · exact ⟨hr.row h2, fun h => (by cases h), hl⟩

theorem own_fresh (w : World) (cs : Array Value) (cap : Nat) (hcs : cs.size = cap * 4) (hcap : cap ≤ maxLen) : OwnG w (.slice (some ⟨w.heap.size, 0, none⟩) 0 cap) [] (w.drew.alloc (.cells cs 42)) :=
  ⟨⟨rfl, .inr ⟨w.heap.size, cap, cs, rfl, Nat.le_refl _, by show (w.heap.push _)[w.heap.size]? = _; simp, Nat.zero_le _, hcap, hcs, by simp [fl]⟩⟩, ((Below.refl _ _).drew).alloc (Nat.le_refl _) _⟩
theorem zc_size (m : Nat) : (Builtin.zeroCells (Value.agg #[.int .i64 0, .int .i64 0, .int .i64 0, .bool false]).cells m).size = m * 4 := by simp [Builtin.zeroCells, Value.cells]
/-- slices.Grow at nothing. -/
def GrowR (w : World) (e : Ending) (w' : World) : Prop := ∃ v, e = .returned v ∧ OwnG w v [] w'
theorem grow_nil (n : Nat) (hn : n ≤ 1000000) (w : World) : Calls Try.prog 43 #[.slice none 0 0, .int .i64 n] w (GrowR w) := by
  rcases Nat.eq_zero_or_pos n with h0 | h0
  · subst h0
    refine (Any8.slices_Grow_room Try.growC none 0 0 0 w (Nat.le_refl _) (by omega) (by omega) (by omega)).mono ?_
    rintro e w' ⟨rfl, rfl⟩
    exact ⟨_, rfl, OwnG.nil _⟩
  · obtain ⟨i0, hi, hz0, hz1, hz2⟩ := info4
    refine (Any8.slices_Grow_grow Try.growC i0 _ hi hz0 (by rw [hz1]; decide) none 0 0 n [] w (Nat.le_refl _) (by omega) (by rw [hz2]; omega) (by omega) (by simp) (fun _ => rfl) (fun a ha => by cases ha)).mono ?_
    rintro e w' ⟨rfl, rfl⟩
    refine ⟨_, rfl, own_fresh w _ _ ?_ (grownCap_le_maxLen w _ _ _ (by unfold maxLen; omega))⟩
    have hg := grownCap_ge w (0 + n) 0 42
    rw [Array.size_append, Array.size_append, zc_size, zc_size]
    show 0 + (0 + n - 0) * 4 + (grownCap w (0 + n) 0 42 - (0 + n)) * 4 = grownCap w (0 + n) 0 42 * 4
    omega
/-- Two lists in a variadic argument. -/
structure Pair (w : World) (s : Nat) (a : Option Addr) (na ca : Nat) (l : List Chg) (b : Option Addr) (nb cb : Nat) (m : List Chg) : Prop where
  c0 : w.cell? ⟨s, 0, none⟩ = some (.slice a na ca)
  c1 : w.cell? ⟨s, 1, none⟩ = some (.slice b nb cb)
  la : Lst w a na ca l
  lb : Lst w b nb cb m
theorem Pair.more {w w' : World} {s : Nat} {a : Option Addr} {na ca : Nat} {l : List Chg} {b : Option Addr} {nb cb : Nat} {m : List Chg} (h : Pair w s a na ca l b nb cb m) (hb : Below w.heap.size w w') : Pair w' s a na ca l b nb cb m :=
  ⟨(hb.cell (World.block_lt_of_cell? w _ h.c0)).trans h.c0, (hb.cell (World.block_lt_of_cell? w _ h.c1)).trans h.c1, h.la.more hb, h.lb.more hb⟩
set_option maxRecDepth 100000 in
set_option maxHeartbeats 4000000 in
theorem concat_two (s : Nat) (a : Option Addr) (na ca : Nat) (l : List Chg) (b : Option Addr) (nb cb : Nat) (m : List Chg) (ha : na ≤ 10000) (hb : nb ≤ 10000) (w : World) (hp : Pair w s a na ca l b nb cb m) :
    Calls Try.prog 27 #[.slice (some ⟨s, 0, none⟩) 2 2] w (OwnO (l ++ m) w) := by
  obtain ⟨i0, hi0, hz0, hz1, hz2⟩ := info4
  have HQ := Lib.hid (And.intro hi0 (And.intro hz0 (And.intro hz1 hz2)))
  have HP := Lib.hid hp
  have HL1 := Lib.hid hp.la.1.1
  have HL2 := Lib.hid hp.lb.1.1
  have c0 := hp.c0
  have c1 := hp.c1
  obtain ⟨S, hS⟩ : ∃ S, S = na + nb := ⟨_, rfl⟩
  have CG := Lib.hid (fun W => grow_nil S (by omega) W)
  have w1 : IntKind.i64.wrap ((na : Int) + (nb : Int)) = (S : Int) := by rw [IntKind.wrap_i64]; omega
  have w2 : IntKind.i64.wrap (na : Int) = (na : Int) := by rw [IntKind.wrap_i64]; omega
  have w3 : (na : Int) + (nb : Int) = (S : Int) := by omega
  have w4 : IntKind.i64.wrap (S : Int) = (S : Int) := by rw [IntKind.wrap_i64]; omega
  have t1 : decide ((na : Int) < 0) = false := decide_eq_false (by omega)
  have t2 : decide ((S : Int) < 0) = false := decide_eq_false (by omega)
  clear hS
  clear hi0 hz0 hz1 hz2 hp
  go_enter Try.func27, Try.ntmps27
  go_wp2
  refine wp_loop_rounds 3 ?_
  rw [rounds_succ]
  go_wp2
  rw [rounds_succ]
  go_wp2
  rw [rounds_succ]
  go_wp2_with fail
  refine (CG.out _).mono ?_
  rintro e wg ⟨v0, rfl, G0⟩
  have HG0 := Lib.hid G0
  have HPg := Lib.hid (HP.out.more G0.below)
  have d0 := HPg.out.c0
  have d1 := HPg.out.c1
  clear c0 c1 G0 CG w1 w2 w3 w4 t1 t2
  go_wp2_with fail
  refine wp_loop_rounds 3 ?_
  rw [rounds_succ]
  go_wp2_with (at_builtin; refine append_opt _ rfl _ _ 23 rfl w.heap.size 42 i0 (.agg #[.int .i64 0, .int .i64 0, .int .i64 0, .bool false]) 4 32 Try.underlying23 HQ.out.1 HQ.out.2.1 HQ.out.2.2.1 HQ.out.2.2.2 rfl (by decide) _ _ _ rfl HG0.out.row a na ca (fl l) rfl HPg.out.la.news.1 HPg.out.la.2.1 HPg.out.la.news.2 (fl_one l) ?q4 ?q5 HG0.out.below.size ?_)
  case q4 => simp [maxLen]; omega
  case q5 => simp; omega
  intro v1 x1 o1 g1 _
  have HG1 := Lib.hid (HG0.out.grown (m := l) (by simpa [HL1.out] using o1) g1)
  have HP1 := Lib.hid (HP.out.more HG1.out.below)
  have e0 := HP1.out.c0
  have e1 := HP1.out.c1
  clear o1 g1 HG0 HPg d0 d1
  go_wp2
  rw [rounds_succ]
  go_wp2_with (at_builtin; refine append_opt _ rfl _ _ 23 rfl w.heap.size 42 i0 (.agg #[.int .i64 0, .int .i64 0, .int .i64 0, .bool false]) 4 32 Try.underlying23 HQ.out.1 HQ.out.2.1 HQ.out.2.2.1 HQ.out.2.2.2 rfl (by decide) _ _ _ rfl HG1.out.row b nb cb (fl m) rfl HP1.out.lb.news.1 HP1.out.lb.2.1 HP1.out.lb.news.2 (fl_one m) ?r4 ?r5 HG1.out.below.size ?_)
  case r4 => simp [maxLen, HL1.out]; omega
  case r5 => simp [HL1.out]; omega
  intro v2 x2 o2 g2 _
  have HG2 := Lib.hid (HG1.out.grown (m := m) (by rw [HL2.out]; exact o2) g2)
  clear o2 g2 HG1 HP1 e0 e1
  go_wp2
  rw [rounds_succ]
  go_wp2
  go_ret
  exact HG2.out.done
end Go.Proofs.Ytdpgmjmmnjbbiaa.Tl
