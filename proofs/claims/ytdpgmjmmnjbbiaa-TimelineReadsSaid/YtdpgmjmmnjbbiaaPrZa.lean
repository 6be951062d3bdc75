/-
  Layer 4 (clock): a law for a range over an iterator that keeps cells of its own (a captured variable that it writes) and stands over another iterator. What the iterator may turn: the blocks that it laid at its call, and whatever is no cells behind them. What a round may turn: the caller's own blocks. No condition of its own.
-/
import Derived.Test.YtdpgmjmmnjbbiaaPrLeaf
import Derived.RangeFuncNested
import Derived.RangeFuncBound
import Derived.RangeFuncLeaves
import Derived.OwnWalkIn
import Derived.TacticsInMore
import Derived.LoopNIn
import Derived.LoopIn
namespace Go.Proofs.Ytdpgmjmmnjbbiaa
open Go Go.RowKit Go.Lib

theorem room_any {F : Fence} (hd : F.depth = none) (k : Nat) : F.room k := fun d h => by rw [hd] at h; cases h
/-- A round's contract holds at any depth and inside another round, where the fence has no depth. -/
theorem yield_any {F : Fence} (hd : F.depth = none) {m : Nat} (m' l' : Nat) {P : Program} {l : Nat} {args : Array Value} {W : World} {R : Ending → World → Prop} (h : YieldAt F m P l args W R) : YieldAt (F.inRound l') m' P l args W R := by
  obtain ⟨fn, tmps, assign, body, hy, hR⟩ := h
  exact ⟨fn, tmps, assign, body, hy, hR.1, fun c cs _ => hR.2 c cs (room_any hd _)⟩
theorem yield_depth {F : Fence} (hd : F.depth = none) {m : Nat} (m' : Nat) {P : Program} {l : Nat} {args : Array Value} {W : World} {R : Ending → World → Prop} (h : YieldAt F m P l args W R) : YieldAt F m' P l args W R := by
  obtain ⟨fn, tmps, assign, body, hy, hR⟩ := h
  exact ⟨fn, tmps, assign, body, hy, hR.1, fun c cs _ => hR.2 c cs (room_any hd _)⟩

/-- J abides new blocks, and the turn of a block from lo on that lies ahead of hi or is no cells. -/
def Ab {β : Type} (lo hi : Nat) (J : β → World → Prop) : Prop :=
  ∀ s A B row, J s A → A.grownBy B row → (∀ r, row = some r → lo ≤ r ∧ (r < hi ∨ ∃ o : Obj, A.heap[r]? = some o ∧ o.isCells = false)) → J s B
theorem Ab.alloc {β : Type} {lo hi : Nat} {J : β → World → Prop} (h : Ab lo hi J) {s : β} {W : World} (o : Obj) (hs : J s W) : J s (W.alloc o) :=
  h s W _ none hs (World.grownBy_alloc W o none) (fun r e => by cases e)
theorem Ab.putObj {β : Type} {lo hi : Nat} {J : β → World → Prop} (h : Ab lo hi J) {s : β} {W : World} {l : Nat} {o : Obj} (o' : Obj) (hs : J s W) (hlo : lo ≤ l) (hl : W.heap[l]? = some o) (ho : o.isCells = false) : J s (W.putObj l o') :=
  h s W _ (some l) hs (grownBy_putObj' W l o') (fun r e => by cases e; exact ⟨hlo, .inr ⟨o, hl, ho⟩⟩)
theorem Ab.put {β : Type} {lo hi : Nat} {J : β → World → Prop} (h : Ab lo hi J) {s : β} {W : World} {l : Nat} (o' : Obj) (hs : J s W) (hlo : lo ≤ l) (hhi : l < hi) : J s (W.putObj l o') :=
  h s W _ (some l) hs (grownBy_putObj' W l o') (fun r e => by cases e; exact ⟨hlo, .inl hhi⟩)
theorem Ab.setCell {β : Type} {lo hi : Nat} {J : β → World → Prop} (h : Ab lo hi J) {s : β} {W : World} {b : Nat} (v : Value) (hs : J s W) (hlo : lo ≤ b) (hhi : b < hi) : J s (W.setCell ⟨b, 0, none⟩ v) :=
  h s W _ (some b) hs (grownBy_setCell' W b v) (fun r e => by cases e; exact ⟨hlo, .inl hhi⟩)
theorem Ab.own {β : Type} {lo hi : Nat} {J : β → World → Prop} (h : Ab lo hi J) {B : Nat} (hB : lo ≤ B) : OwnFrom B J := fun s X Y row hs hg hr => h s X Y row hs hg (fun r e => ⟨Nat.le_trans hB (hr r e).1, .inr (hr r e).2⟩)
theorem Ab.and {β : Type} {lo hi : Nat} {I I' : β → World → Prop} (h : Ab lo hi I) (h' : Ab lo hi I') : Ab lo hi (fun s W => I s W ∧ I' s W) := fun s W W' row hs hg hr => ⟨h s W W' row hs.1 hg hr, h' s W W' row hs.2 hg hr⟩
/-- What lies in a block of the caller's own. -/
theorem ab_boxed {β : Type} {lo hi B : Nat} (t : TypeId) (f : β → Value) (hB : B < lo ∨ hi ≤ B) : Ab lo hi (fun s W => Boxed W B t (f s)) := fun s X Y row hs hg hr =>
  hs.kept hg (fun e => by
    obtain ⟨h1, h2⟩ := hr B e.symm
    rcases h2 with h2 | ⟨o, ho, hc⟩
    · omega
    · rw [show X.heap[B]? = _ from hs] at ho; cases ho; cases hc)
theorem ab_pure {β : Type} (lo hi : Nat) (p : β → Prop) : Ab lo hi (fun s (_ : World) => p s) := fun _ _ _ _ hs _ _ => hs
theorem ab_below {β : Type} {n₀ lo hi : Nat} {w₀ : World} (hn : n₀ ≤ w₀.heap.size) (hB : n₀ ≤ lo) : Ab lo hi (fun (_ : β) W => Below n₀ w₀ W) :=
  fun _ _ _ _ hs hg hr => hs.grown hg (Nat.le_trans hn hs.size) (fun k e => Nat.le_trans hB (hr k e).1)
theorem ab_false {β : Type} (lo hi : Nat) : Ab lo hi (fun (_ : β) (_ : World) => False) := fun _ _ _ _ hs _ _ => hs

/-- Whatever is not mine lies as it lay. -/
structure KeepsBut (mine : Nat → Obj → Prop) (A B : World) : Prop where
  size : A.heap.size ≤ B.heap.size
  same : ∀ (k : Nat) (o : Obj), A.heap[k]? = some o → ¬ mine k o → B.heap[k]? = some o
theorem KeepsBut.refl (mine : Nat → Obj → Prop) (A : World) : KeepsBut mine A A := ⟨Nat.le_refl _, fun _ _ h _ => h⟩
theorem KeepsBut.trans {mine : Nat → Obj → Prop} {A B C : World} (h : KeepsBut mine A B) (k : KeepsBut mine B C) : KeepsBut mine A C :=
  ⟨Nat.le_trans h.size k.size, fun i o hi hm => k.same i o (h.same i o hi hm) hm⟩
theorem KeepsBut.wider {mine mine' : Nat → Obj → Prop} {A B : World} (h : KeepsBut mine A B) (hw : ∀ k o, mine k o → mine' k o) : KeepsBut mine' A B :=
  ⟨h.size, fun i o hi hm => h.same i o hi (fun hh => hm (hw i o hh))⟩
theorem KeepsBut.alloc {mine : Nat → Obj → Prop} (W : World) (o : Obj) : KeepsBut mine W (W.alloc o) :=
  ⟨by simp, fun k o' hk _ => (Below.heap_alloc W o k (Array.getElem?_eq_some_iff.1 hk).1).trans hk⟩
theorem KeepsBut.grown {mine : Nat → Obj → Prop} {A B : World} {row : Option Nat} (hg : A.grownBy B row) (hr : ∀ r o, row = some r → A.heap[r]? = some o → mine r o) : KeepsBut mine A B :=
  ⟨hg.size, fun k o hk hm => (hg.block k (Array.getElem?_eq_some_iff.1 hk).1 (fun e => hm (hr k o e.symm hk))).trans hk⟩
theorem KeepsBut.setCell {mine : Nat → Obj → Prop} (W : World) (b : Nat) (v : Value) (hm : ∀ o, W.heap[b]? = some o → mine b o) : KeepsBut mine W (W.setCell ⟨b, 0, none⟩ v) :=
  KeepsBut.grown (grownBy_setCell' W b v) (fun r o e h => by cases e; exact hm o h)
theorem KeepsBut.boxed {mine : Nat → Obj → Prop} {A B : World} (h : KeepsBut mine A B) {b : Nat} {t : TypeId} {v : Value} (hb : Boxed A b t v) (hm : ¬ mine b (.cells #[v] t (0, 0))) : Boxed B b t v := h.same b _ hb hm

/-- What the statement itself lays: the block of the rounds' deferred calls, and the record behind it. -/
structure Laid (D : Nat) (r : Loop) (W : World) : Prop where
  defs : W.heap[D]? = some (.deferred (some []))
  loop : W.heap[D + 1]? = some (.loop r)
theorem Laid.ab {β : Type} (D hi : Nat) (r : Loop) : Ab (D + 2) hi (fun (_ : β) W => Laid D r W) := fun _ A B row hs hg hr => by
  have far : ∀ k, k < D + 2 → ∀ o, A.heap[k]? = some o → B.heap[k]? = some o := fun k hk o ho =>
    (hg.block k (Array.getElem?_eq_some_iff.1 ho).1 (fun e => by have := (hr k e.symm).1; omega)).trans ho
  exact ⟨far _ (by omega) _ hs.defs, far _ (by omega) _ hs.loop⟩
theorem Laid.turn {D : Nat} {r : Loop} {W : World} (h : Laid D r W) (r' : Loop) : Laid D r' (W.putObj (D + 1) (.loop r')) :=
  ⟨(World.putObj_heap_other (by omega)).trans h.defs, World.putObj_heap_same (Array.getElem?_eq_some_iff.1 h.loop).1⟩

/-- How the body of a round may be left. -/
def roundEnd {α : Type} (mine : Nat → Obj → Prop) (I : List α → World → Prop) (Ix : Code → List α → World → Prop) (xs : List α) (W : World) : Exit → Act → World → Prop
  | .normal, _, W' => KeepsBut mine W W' ∧ I xs W'
  | .ret, _, W' => KeepsBut mine W W' ∧ Ix .ret xs W'
  | .exit id, _, W' => KeepsBut mine W W' ∧ Ix (.exit id) xs W'
  | .goto t, _, W' => KeepsBut mine W W' ∧ Ix (.goto t) xs W'
  | .panic _, _, _ => False
  | .outgrown, _, _ => False

/-- The contract of an iterator's value at the loop whose blocks begin at D: c blocks of its own, the elements L; whatever the round's own blocks (mine). -/
def Iter {α : Type} (F : Fence) (n : Nat) (P : Program) (g : Nat) (lb : Array Value) (encs : α → Array Value) (L : List α) (c D : Nat) (mine : Nat → Obj → Prop) (w : World) : Prop :=
  ∀ (J Jx : List α → World → Prop) (W1 : World), W1.heap.size = D + 2 → Below w.heap.size w W1 → Ab (D + 2) (D + 2 + c) J → Ab (D + 2) (D + 2 + c) Jx →
    (∀ pre x W, J pre W → pre ++ [x] <+: L → D + 2 + c ≤ W.heap.size → YieldAt F n P (D + 1) (encs x) W fun e W' =>
      (e = .returned (.bool true) ∧ J (pre ++ [x]) W' ∧ KeepsBut (fun k o => mine k o ∨ k = D + 1) W W') ∨ (e = .returned (.bool false) ∧ Jx (pre ++ [x]) W' ∧ KeepsBut (fun k o => mine k o ∨ k = D + 1) W W')) →
    J [] W1 →
    CallsIn F n P g (#[.func (.yield (D + 1)) #[] #[]] ++ lb) W1 fun e W' => (∃ v, e = .returned v) ∧ (J L W' ∨ ∃ pre, pre <+: L ∧ Jx pre W')

variable {F : Fence} {n : Nat} {P : Program}

theorem range_law {α : Type} {g : Operand} {ps : Array Tmp} {assign body : Code} {Q : Exit → Act → World → Prop} {a : Act} {w : World}
    (hd : F.depth = none) (hro : F.round = none) {gf : Nat} {lb : Array Value} (hg : a.eval g = .func (.func gf) #[] lb) (hFg : F.fn gf) (eg : ∀ args w, (callFunc gf args).run P w = .ok (.enter gf args) w)
    {encs : α → Array Value} {L : List α} {c : Nat} {mine : Nat → Obj → Prop} (hmine : ∀ k o, w.heap.size ≤ k → k < w.heap.size + 2 → ¬ mine k o)
    (hseq : Iter F (n - 1) P gf lb encs L c w.heap.size mine w) (hps : ∀ x, (encs x).size = ps.size)
    (I : List α → World → Prop) (Ix : Code → List α → World → Prop) (hI : Ab w.heap.size (w.heap.size + 2 + c) I) (hIx : ∀ cd, Ab w.heap.size (w.heap.size + 2 + c) (Ix cd)) (h0 : I [] w)
    (Ax : α → Act → World → Prop) (hAx : ∀ x a', Ab w.heap.size (w.heap.size + 2 + c) (fun (_ : Unit) W => Ax x a' W))
    (hassign : ∀ (pre : List α) (x : α) (W : World) (K : Act → World → Prop), I pre W → pre ++ [x] <+: L → w.heap.size + 2 + c ≤ W.heap.size → (∀ a' W', KeepsBut mine W W' → I pre W' → Ax x a' W' → K a' W') →
      assign.wpIn (F.inRound (w.heap.size + 1)) n P (Exit.then K (fun _ _ _ => False)) { tmps := (ps.zip (encs x)).foldl (fun t (p, v) => t.setIfInBounds p v) a.tmps, defers := [] } W)
    (hbody : ∀ (pre : List α) (x : α) (a' : Act) (W : World), I pre W → Ax x a' W → pre ++ [x] <+: L → w.heap.size + 2 + c ≤ W.heap.size → body.wpIn (F.inRound (w.heap.size + 1)) n P (roundEnd mine I Ix (pre ++ [x]) W) a' W)
    (hdone : ∀ (W : World), w.heap.size + 2 ≤ W.heap.size → I L W → W.heap[w.heap.size]? = some (.deferred (some [])) → Q .normal { a with defers := { target := .collected w.heap.size, args := #[] } :: a.defers } W)
    (hstop : ∀ (cd : Code) (pre : List α) (W : World), pre <+: L → Ix cd pre W → W.heap[w.heap.size]? = some (.deferred (some [])) → cd.wpIn F n P Q { a with defers := { target := .collected w.heap.size, args := #[] } :: a.defers } W) :
    (Code.rangeFunc g ps assign body).wpIn F n P Q a w := by
  refine wpIn_rangeFunc fun fn hfn => ?_
  rw [hro]
  -- the record, by its state and its pending jump
  let rec_ : LoopState → Option Code → Loop := fun st pe => { state := st, pending := pe, fn, tmps := a.tmps, params := ps, assign, body, defers := w.heap.size }
  obtain ⟨R, hR⟩ : ∃ R, R = rec_ := ⟨_, rfl⟩
  obtain ⟨W1, hW1⟩ : ∃ W1, (w.alloc (.deferred (some []))).alloc (.loop (R .ready none)) = W1 := ⟨_, rfl⟩
  have hLd : Laid w.heap.size (R .ready none) W1 := by
    subst hW1
    exact ⟨(Below.heap_alloc _ _ _ (by simp)).trans (World.alloc_heap_new w _), by have := World.alloc_heap_new (w.alloc (.deferred (some []))) (.loop (R .ready none)); rwa [World.size_alloc] at this⟩
  have hsz : W1.heap.size = w.heap.size + 2 := by subst hW1; simp
  have hB1 : Below w.heap.size w W1 := by subst hW1; exact ((Below.refl _ w).alloc (Nat.le_refl _) _).alloc (by simp) _
  have hI1 : I [] W1 := by subst hW1; exact hI.alloc _ (hI.alloc _ h0)
  refine ⟨w.heap.size + 1, [{ target := .collected w.heap.size, args := #[] }], W1, { target := .fn (.func gf) lb, args := #[.func (.yield (w.heap.size + 1)) #[] #[]] }, W1, gf,
    #[.func (.yield (w.heap.size + 1)) #[] #[]] ++ lb, W1, by rw [← hW1, hR]; exact run_enterLoop_outer _ _ _ _ _, by simp only [resolve, hg]; simp [go_sem], ?_, by simp [invoke, go_sem, eg], fun h => (by rw [hd] at h; cases h), ?_⟩
  · intro f' hf'; simp [Target.leads] at hf'; subst hf'; exact hFg
  have lift : ∀ {J : List α → World → Prop}, Ab w.heap.size (w.heap.size + 2 + c) J → Ab (w.heap.size + 2) (w.heap.size + 2 + c) J := fun h s A B row hs hg hr => h s A B row hs hg (fun r e => ⟨Nat.le_trans (by omega) (hr r e).1, (hr r e).2⟩)
  have hlp : ∀ {st pe W}, Laid w.heap.size (R st pe) W → ∃ o, W.heap[w.heap.size + 1]? = some (.loop o) := fun h => ⟨_, h.loop⟩
  refine (hseq (fun pre W => I pre W ∧ Laid w.heap.size (R .ready none) W) (fun pre W => ∃ cd, Ix cd pre W ∧ Laid w.heap.size (R .done (some cd)) W) W1 hsz hB1
    (Ab.and (lift hI) (Laid.ab _ _ _)) (fun s A B row hs hg hr => ?_) ?_ ⟨hI1, hLd⟩).mono ?_
  · obtain ⟨cd, h1, h2⟩ := hs
    exact ⟨cd, lift (hIx cd) s A B row h1 hg hr, Laid.ab (β := Unit) _ (w.heap.size + 2 + c) _ () A B row h2 hg hr⟩
  · -- a round
    rintro pre x W ⟨hi, hl⟩ hpre hbig
    have hy := run_yield (P := P) (args := encs x) hl.loop (by rw [hR]; exact hps x)
    rw [hR] at hy
    refine yield_depth hd _ ⟨fn, _, assign, body, hy, roundIn_of_wpIn hfn (hassign pre x W _ hi hpre hbig ?_)⟩
    clear hy
    intro a' Wa hka hia hax
    have hla : Laid w.heap.size (R .ready none) Wa := ⟨hka.same _ _ hl.defs (hmine _ _ (by omega) (by omega)), hka.same _ _ hl.loop (hmine _ _ (by omega) (by omega))⟩
    refine ⟨_, run_beginRound hla.loop (by rw [hR]), ?_⟩
    have hlb := hla.turn ({ R .ready none with state := .busy })
    refine wpIn_mono (hbody pre x a' _ (hI.putObj _ hia (by omega) hla.loop rfl) ((hAx x a').putObj (s := ()) _ hax (by omega) hla.loop rfl) hpre (by simp; have := hka.size; omega)) ?_
    have K0 : KeepsBut (fun k o => mine k o ∨ k = w.heap.size + 1) W (Wa.putObj (w.heap.size + 1) (.loop { R .ready none with state := .busy })) :=
      (hka.wider fun _ _ h => .inl h).trans (KeepsBut.grown (grownBy_putObj' _ _ _) fun r o e _ => by cases e; exact .inr rfl)
    have fin : ∀ (jump : Option Code) (W3 : World), KeepsBut mine (Wa.putObj (w.heap.size + 1) (.loop { R .ready none with state := .busy })) W3 →
        (Instr.endRound (w.heap.size + 1) jump).run P W3 = .ok (.bool jump.isNone) (W3.putObj (w.heap.size + 1) (.loop (R (if jump.isNone then .ready else .done) jump))) ∧
        Laid w.heap.size (R (if jump.isNone then .ready else .done) jump) (W3.putObj (w.heap.size + 1) (.loop (R (if jump.isNone then .ready else .done) jump))) ∧
        KeepsBut (fun k o => mine k o ∨ k = w.heap.size + 1) W (W3.putObj (w.heap.size + 1) (.loop (R (if jump.isNone then .ready else .done) jump))) ∧ (∃ o, W3.heap[w.heap.size + 1]? = some (.loop o)) := fun jump W3 hk3 => by
      have h3 : Laid w.heap.size { R .ready none with state := .busy } W3 := ⟨hk3.same _ _ hlb.defs (hmine _ _ (by omega) (by omega)), hk3.same _ _ hlb.loop (hmine _ _ (by omega) (by omega))⟩
      refine ⟨?_, h3.turn _, (K0.trans (hk3.wider fun _ _ h => .inl h)).trans (KeepsBut.grown (grownBy_putObj' _ _ _) fun r o e _ => by cases e; exact .inr rfl), _, h3.loop⟩
      have := run_endRound (P := P) jump h3.loop
      rw [hR] at this ⊢
      exact this
    rintro e a3 W3 hp
    cases e with
    | normal =>
      obtain ⟨hr, hl4, hk4, o, ho⟩ := fin none W3 hp.1
      exact ⟨_, _, hr, .inl ⟨rfl, ⟨hI.putObj _ hp.2 (by omega) ho rfl, hl4⟩, hk4⟩⟩
    | ret =>
      obtain ⟨hr, hl4, hk4, o, ho⟩ := fin (some .ret) W3 hp.1
      exact ⟨_, _, hr, .inr ⟨rfl, ⟨.ret, (hIx _).putObj _ hp.2 (by omega) ho rfl, hl4⟩, hk4⟩⟩
    | exit id =>
      obtain ⟨hr, hl4, hk4, o, ho⟩ := fin (some (.exit id)) W3 hp.1
      exact ⟨_, _, hr, .inr ⟨rfl, ⟨.exit id, (hIx _).putObj _ hp.2 (by omega) ho rfl, hl4⟩, hk4⟩⟩
    | goto t =>
      obtain ⟨hr, hl4, hk4, o, ho⟩ := fin (some (.goto t)) W3 hp.1
      exact ⟨_, _, hr, .inr ⟨rfl, ⟨.goto t, (hIx _).putObj _ hp.2 (by omega) ho rfl, hl4⟩, hk4⟩⟩
    | panic ch => exact hp.elim
    | outgrown => exact hp.elim
  · -- behind the iterator
    rintro e W2 ⟨⟨v, rfl⟩, (⟨hi, hl⟩ | ⟨pre, hpre, cd, hi, hl⟩)⟩
    · have E := run_endLoop (P := P) hl.loop (by rw [hR]; simp [rec_])
      have ep : (R .ready none).pending = none := by rw [hR]
      rw [ep] at E
      exact ⟨none, _, E, hdone _ (by have := (Array.getElem?_eq_some_iff.1 hl.loop).1; simp; omega) (hI.putObj _ hi (by omega) hl.loop rfl) (hl.turn _).defs⟩
    · have E := run_endLoop (P := P) hl.loop (by rw [hR]; simp [rec_])
      have ep : (R .done (some cd)).pending = some cd := by rw [hR]
      rw [ep] at E
      exact ⟨some cd, _, E, hstop cd pre _ hpre ((hIx cd).putObj _ hi (by omega) hl.loop rfl) (hl.turn _).defs⟩
end Go.Proofs.Ytdpgmjmmnjbbiaa
