/-
  Layer 6 (timeline): what TimelinePast and TimelineOrderless lean on: mathematics of a later change; append as a step of a region that draws; At at a valid list. No condition.
-/
import Derived.Test.YtdpgmjmmnjbbiaaPrUp
import Derived.Deep.RegionLaw
namespace Go.Proofs.Ytdpgmjmmnjbbiaa.Tl
open Go Go.RowKit Go.Lib Go.Sort Go.Shelf Go.Proofs Go.Proofs.Ytdpgmjmmnjbbiaa Go.Proofs.Ytdpgmjmmnjbbiaa.Tp
set_option linter.unusedVariables false

/-- What becomes known later does not count. -/
theorem inL_later (l : List Chg) (c : Chg) (k : Int) (h : k < c.kn) : inL (l ++ [c]) k = inL l k := by
  refine inL_unique l k _ (inL_asc _ k) fun x => ?_
  rw [mem_inL]
  unfold counts
  constructor
  · rintro ⟨h1, h2, h3, h4⟩
    rcases List.mem_append.1 h1 with h5 | h5
    · exact ⟨h5, h2, h3, fun y hy => h4 y (List.mem_append.2 (.inl hy))⟩
    · rw [List.mem_singleton] at h5; subst h5; omega
  · rintro ⟨h1, h2, h3, h4⟩
    refine ⟨List.mem_append.2 (.inl h1), h2, h3, fun y hy e hk => ?_⟩
    rcases List.mem_append.1 hy with h5 | h5
    · exact h4 y h5 e hk
    · rw [List.mem_singleton] at h5; subst h5; omega
theorem valL_later (l : List Chg) (c : Chg) (k d : Int) (h : k < c.kn) : valL (l ++ [c]) k d = valL l k d := by unfold valL; rw [inL_later l c k h]
theorem valF_filter (d : Int) : ∀ (m : List Chg) (a : Option Int), m.Pairwise (fun a b => a.fr < b.fr) → valF d a m = valF d a (m.filter fun c => decide (c.fr ≤ d))
  | [], a, _ => rfl
  | x :: r, a, h => by
    have h' := List.pairwise_cons.1 h
    rw [valF]
    by_cases e : x.fr ≤ d
    · rw [if_pos e, List.filter_cons, if_pos (by simpa using e), valF, if_pos e, valF_filter d r _ h'.2]
    · rw [if_neg e]
      have : (x :: r).filter (fun c => decide (c.fr ≤ d)) = [] := by
        rw [List.filter_eq_nil_iff]
        intro y hy
        rcases List.mem_cons.1 hy with rfl | hy
        · simpa using e
        · have := h'.1 y hy; simp; omega
      rw [this, valF]
/-- A change that is known last changes nothing before its day. -/
theorem valL_before (l : List Chg) (c : Chg) (k d : Int) (hd : d < c.fr) : valL (l ++ [c]) k d = valL l k d := by
  unfold valL
  rw [valF_filter d _ _ (inL_asc _ k), valF_filter d _ _ (inL_asc l k)]
  congr 1
  refine asc_unique (r := fun a b : Chg => a.fr < b.fr) (fun a => by omega) (fun h h' => by omega) _ _ ((inL_asc _ k).filter _) ((inL_asc l k).filter _) fun x => ?_
  rw [List.mem_filter, List.mem_filter, mem_inL, mem_inL]
  unfold counts
  constructor
  · rintro ⟨⟨h1, h2, h3, h4⟩, h5⟩
    have h5' := of_decide_eq_true h5
    rcases List.mem_append.1 h1 with h6 | h6
    · exact ⟨⟨h6, h2, h3, fun y hy => h4 y (List.mem_append.2 (.inl hy))⟩, h5⟩
    · rw [List.mem_singleton] at h6; subst h6; omega
  · rintro ⟨⟨h1, h2, h3, h4⟩, h5⟩
    have h5' := of_decide_eq_true h5
    refine ⟨⟨List.mem_append.2 (.inl h1), h2, h3, fun y hy e hk => ?_⟩, h5⟩
    rcases List.mem_append.1 hy with h6 | h6
    · exact h4 y h6 e hk
    · rw [List.mem_singleton] at h6; subst h6; omega
theorem valF_hit : ∀ (m : List Chg) (c : Chg) (a : Option Int), m.Pairwise (fun a b => a.fr < b.fr) → c ∈ m → valF c.fr a m = some c.va
  | [], c, a, _, h => by simp at h
  | x :: r, c, a, h, hm => by
    have h' := List.pairwise_cons.1 h
    rw [valF]
    rcases List.mem_cons.1 hm with rfl | hm
    · rw [if_pos (Int.le_refl _)]
      exact valF_stop _ _ r fun y hy => h'.1 y hy
    · have := h'.1 c hm
      rw [if_pos (by omega)]
      exact valF_hit r c _ h'.2 hm
/-- .. and gives its own day its value. -/
theorem valL_on (l : List Chg) (c : Chg) (k : Int) (hk : c.kn = k) (hl : ∀ x ∈ l, x.kn < k) (hd : c.de = false) : valL (l ++ [c]) k c.fr = some c.va := by
  unfold valL
  refine valF_hit _ c none (inL_asc _ k) ((mem_inL _ k c).2 ⟨by simp, hd, by omega, fun y hy e _ => ?_⟩)
  rcases List.mem_append.1 hy with h | h
  · have := hl y h
    unfold lt
    omega
  · rw [List.mem_singleton] at h; subst h; exact lt_irrefl _
theorem valE_zero {l : List Chg} (h : l.length ≤ 1024) (hc : ∀ c ∈ l, errC c = 0) : valE l = 0 := by
  unfold valE; rw [if_neg (by omega)]; exact (errL_zero l).2 hc
def AtV (o : Option Int) (w : World) (e : Ending) (w' : World) : Prop := e = .returned (.tuple #[.int .i64 (o.getD 0), .bool o.isSome, .int .i64 0]) ∧ Below w.heap.size w w'
theorem at_ok (a : Option Addr) (n cap : Nat) (cs : List Chg) (d k : Int) (w : World) (h : Lst w a n cap cs) (hv : valE cs = 0) (hd : 0 ≤ d ∧ d ≤ 84005) :
    Calls Try.prog 17 #[.slice a n cap, .int .i64 d, .int .i64 k] w (AtV (valL cs k d) w) := by
  have e1 : atO cs d k = valL cs k d := if_pos ⟨hv, hd⟩
  have e2 : atE cs d = 0 := by unfold atE; rw [if_neg (by simp [hv]), if_pos hd]
  have := at_any a n cap cs d k w h
  unfold AtR at this
  rw [e1, e2] at this
  exact this
theorem Lst.only {w w' : World} {a : Option Addr} {n cap b : Nat} {cs : List Chg} (h : Lst w a n cap cs) (ho : Only b w w') (hb : ∀ x, a = some x → x.block ≠ b) : Lst w' a n cap cs := ⟨(h.1.only' ho hb).mono ho.size, h.2⟩
theorem OwnA.lst {l : List Chg} {w w' : World} {a : Option Addr} {cap : Nat} (h : OwnA l w w' a cap) (hl : l.length ≤ 9223372036854775807) : Lst w' a l.length cap l := OwnO.lst h hl
theorem OwnA.ne {l : List Chg} {w w' : World} {a : Option Addr} {cap b : Nat} (h : OwnA l w w' a cap) (hb : b < w.heap.size) : ∀ x, a = some x → x.block ≠ b := by
  intro x hx
  rcases h with ⟨rfl, _⟩ | ⟨g, rfl, _, hg, _⟩
  · cases hx
  · injection hx with hx; subst hx; show g ≠ b; omega

/-- append at a step of a region that draws. -/
theorem step_append_opt {P : Program} {w : World} {ops : Array Oper} {o : Oper} {a : Act} {K : Act → World → Prop} {Q : Exit → Act → World → Prop} {E : Prop} (hgd : o.guard = none) (s x : Operand) (t : TypeId)
    (ho : o.op = .call { callee := .builtin .append, args := #[s, x], argTypes := #[t, t] })
    (base : Nat) (e : TypeId) (i : TypeInfo) (z : Value) (size bytes : Nat) (ht : P.underlying t = some (.slice e)) (hi : P.info? e = some i) (hz : i.zero = some z)
    (hsize : i.size = size) (hby : i.bytes = bytes) (hzs : z.cells.size = size) (hsz : 0 < size)
    (v : Value) (n : Nat) (xs : List Value) (hs : a.eval s = v) (hown : w.ownsRow base e size v n xs)
    (A : Option Addr) (m c : Nat) (news : List Value) (hx : a.eval x = .slice A m c) (hl : news.length = m * size) (h0 : A = none → m = 0 ∧ c = 0) (hnews : ∀ ad, A = some ad → ∀ j u, news[j]? = some u → w.cell? (ad.add j) = some u) (h1 : ∀ u ∈ news, u.oneCell' = true)
    (h63 : n + m ≤ maxLen) (hbytes : (n + m) * bytes ≤ 140737488355328) (hbase : base ≤ w.heap.size)
    (h : ∀ v' w', w'.ownsRow base e size v' (n + m) (xs ++ news) → w.grownBy w' v.ownBlock → K (a.put o.dst v') w') :
    if Region.wanted o (yielded ops a.tmps) = true then Oper.wp P o a w K Q else E := by
  have hw : Region.wanted o (yielded ops a.tmps) = true := by simp [Region.wanted, hgd]
  rw [if_pos hw]
  rcases A with _ | ad
  · obtain ⟨rfl, rfl⟩ := h0 rfl
    obtain rfl : news = [] := List.length_eq_zero_iff.mp (by rw [hl]; omega)
    have hrun := run_append_owned_none (P := P) (w := w) base t o.type e i size ht hi v n xs hown
    unfold Oper.wp
    simp [execOp, ho, resolve, invoke, builtin, hs, hx, hrun, Result.andThen]
    exact h v w (by simpa using hown) (World.grownBy.refl _ _)
  · exact wp_append_own w s x t ho base e i z size bytes ht hi hz hsize hby hzs hsz v n xs hs hown ad m c news hx hl (hnews ad rfl) h1 h63 hbytes hbase fun v' w' h2 h3 _ => h v' w' h2 h3
theorem OwnG.alloc {w0 W : World} {v : Value} {l : List Chg} (h : OwnG w0 v l W) (o : Obj) : OwnG w0 v l (W.alloc o) := h.more ((Below.refl _ _).alloc (Nat.le_refl _) o)
theorem OwnG.drew {w0 W : World} {v : Value} {l : List Chg} (h : OwnG w0 v l W) : OwnG w0 v l W.drew := h.more ((Below.refl _ _).drew)
/-- An empty literal. -/
theorem OwnG.lit {w0 W : World} (hb : Below w0.heap.size w0 W) : OwnG w0 (.slice (some ⟨W.heap.size, 0, none⟩) 0 0) [] (W.alloc (.cells #[] 42)) :=
  ⟨⟨rfl, .inr ⟨W.heap.size, 0, #[], rfl, hb.size, by show (W.heap.push _)[W.heap.size]? = _; simp, Nat.le_refl _, by unfold maxLen; omega, rfl, rfl⟩⟩, hb.alloc hb.size _⟩
theorem OwnG.first {w0 W W' : World} {v v' : Value} {m : List Chg} (h : OwnG w0 v [] W) (ho : W'.ownsRow w0.heap.size 42 4 v' (([] : List Chg).length + m.length) (fl [] ++ fl m)) (hg : W.grownBy W' v.ownBlock) : OwnG w0 v' m W' := h.grown (l := []) ho hg
theorem ne_own {g s n c : Nat} (h : g ≠ s) : (Value.slice (some ⟨g, 0, none⟩) n c).ownBlock ≠ some s := fun e => h (by simpa [Value.ownBlock] using e)
theorem below_al {w0 W : World} (h : Below w0.heap.size w0 W) (o : Obj) : Below w0.heap.size w0 (W.alloc o) := h.alloc h.size o
/-- The cells of a literal of one change. -/
def LitC (W : World) (s : Nat) (c : Chg) : Prop := ∀ j u, (fl [c])[j]? = some u → W.cell? ((⟨s, 0, none⟩ : Addr).add j) = some u
theorem LitC.of {W : World} {s : Nat} {c : Chg} (h : At4 W ⟨s, 0, none⟩ c) : LitC W s c := by
  refine cells_row (n := 1) rfl fun i hi => ?_
  obtain rfl : i = 0 := by omega
  rw [add_z]
  exact h
theorem At4.grown {W W' : World} {s : Nat} {c : Chg} {v : Value} (h : At4 W ⟨s, 0, none⟩ c) (hg : W.grownBy W' v.ownBlock) (hs : v.ownBlock ≠ some s) : At4 W' ⟨s, 0, none⟩ c := h.block (hg.block s h.lt (fun e => hs e.symm))
end Go.Proofs.Ytdpgmjmmnjbbiaa.Tl
