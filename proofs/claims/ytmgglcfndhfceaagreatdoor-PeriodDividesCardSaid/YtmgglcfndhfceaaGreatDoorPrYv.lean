/-
  Layer 5 (period): what the walks of PeriodAddsUp and PeriodDivides carry: the tape, the boxes of the calendar and of the span, the holidays. No condition of its own.
-/
import Derived.Test.YtmgglcfndhfceaaGreatDoorPrYs
import Derived.Test.YtmgglcfndhfceaaGreatDoorPrYq
import Derived.Test.YtmgglcfndhfceaaGreatDoorPrYt
import Derived.Test.YtmgglcfndhfceaaGreatDoorPrCq
namespace Go.Proofs.YtmgglcfndhfceaaGreatDoor.Per
open Go Go.RowKit Go.Lib Go.Proofs.YtmgglcfndhfceaaGreatDoor Go.Proofs.YtmgglcfndhfceaaGreatDoor.Cal Go.Proofs.YtmgglcfndhfceaaGreatDoor.Tp
set_option linter.unusedVariables false

/-- The tape at block b, a box that was made ahead of it or behind it. -/
structure SG (w0 : World) (b cb : Nat) (ck ca : Int) (wr : World) : Prop where
  tape : TapeAt b wr
  cbox : Box2 wr cb 27 ck ca
  below : Below w0.heap.size w0 wr
  hb : w0.heap.size ≤ b
  ne : cb ≠ b
theorem SG.step {w0 wr w' : World} {b cb : Nat} {ck ca : Int} (h : SG w0 b cb ck ca wr) (hT : TapeAt b w') (hO : Only b wr w') : SG w0 b cb ck ca w' :=
  ⟨hT, (hO.block cb h.cbox.lt h.ne).trans h.cbox, h.below.trans (hO.below h.hb h.below.size), h.hb, h.ne⟩
theorem SG.more {w0 wr w' : World} {b cb : Nat} {ck ca : Int} (h : SG w0 b cb ck ca wr) (hb : Below wr.heap.size wr w') : SG w0 b cb ck ca w' :=
  ⟨h.tape.below hb, h.cbox.step hb, h.below.trans (hb.mono h.below.size), h.hb, h.ne⟩
theorem SG.alloc {w0 wr : World} {b cb : Nat} {ck ca : Int} (h : SG w0 b cb ck ca wr) (o : Obj) : SG w0 b cb ck ca (wr.alloc o) := h.more ((Below.refl _ _).alloc (Nat.le_refl _) o)
/-- .. and the box of the span. -/
structure AG (w0 : World) (b cb rb : Nat) (k a F T : Int) (wr : World) : Prop where
  g : SG w0 b cb k a wr
  r : Box2 wr rb 34 F T
  nr : rb ≠ b
theorem AG.step {w0 wr w' : World} {b cb rb : Nat} {k a F T : Int} (h : AG w0 b cb rb k a F T wr) (hT : TapeAt b w') (hO : Only b wr w') : AG w0 b cb rb k a F T w' :=
  ⟨h.g.step hT hO, (hO.block rb h.r.lt h.nr).trans h.r, h.nr⟩
theorem AG.more {w0 wr w' : World} {b cb rb : Nat} {k a F T : Int} (h : AG w0 b cb rb k a F T wr) (hb : Below wr.heap.size wr w') : AG w0 b cb rb k a F T w' :=
  ⟨h.g.more hb, h.r.step hb, h.nr⟩
theorem AG.alloc {w0 wr : World} {b cb rb : Nat} {k a F T : Int} (h : AG w0 b cb rb k a F T wr) (o : Obj) : AG w0 b cb rb k a F T (wr.alloc o) := h.more ((Below.refl _ _).alloc (Nat.le_refl _) o)
theorem AG.new {w0 wr : World} {b cb : Nat} {k a : Int} (h : SG w0 b cb k a wr) (F T : Int) : AG w0 b cb wr.heap.size k a F T (wr.alloc (.cells #[.int .i64 F, .int .i64 T] 34)) :=
  ⟨h.alloc _, Box2.new wr _ F T, by have := h.tape.lt; omega⟩
/-- Rules in memory, outside the tape's block. -/
def HolK (wr : World) (b : Nat) (A : Option Addr) (n : Nat) (hs : List Hol) : Prop := HolRow wr wr.heap.size A n hs ∧ (0 < n → ∀ y, A = some y → y.block ≠ b)
theorem HolK.more {wr w' : World} {b n : Nat} {A : Option Addr} {hs : List Hol} (h : HolK wr b A n hs) (hb : Below wr.heap.size wr w') : HolK w' b A n hs :=
  ⟨(h.1.below hb).more hb.size, h.2⟩
theorem HolK.alloc {wr : World} {b n : Nat} {A : Option Addr} {hs : List Hol} (h : HolK wr b A n hs) (o : Obj) : HolK (wr.alloc o) b A n hs := h.more ((Below.refl _ _).alloc (Nat.le_refl _) o)
theorem HolK.step {wr w' : World} {b n : Nat} {A : Option Addr} {hs : List Hol} (h : HolK wr b A n hs) (hO : Only b wr w') : HolK w' b A n hs := by
  refine ⟨⟨h.1.1, fun hn => ?_⟩, h.2⟩
  obtain ⟨x, hx, _, _⟩ := h.1.2 hn
  have hne := h.2 hn x hx
  subst hx
  exact ((holRow_only h.1 hO hne).more hO.size).2 hn
/-- Cuts in memory, outside the tape's block. -/
def CutK (wr : World) (b : Nat) (A : Option Addr) (n : Nat) (g : Nat → Int) : Prop := CutRow wr wr.heap.size A n g ∧ (0 < n → ∀ y, A = some y → y.block ≠ b)
theorem CutK.more {wr w' : World} {b n : Nat} {A : Option Addr} {g : Nat → Int} (h : CutK wr b A n g) (hb : Below wr.heap.size wr w') : CutK w' b A n g :=
  ⟨(h.1.below hb).more hb.size, h.2⟩
theorem CutK.alloc {wr : World} {b n : Nat} {A : Option Addr} {g : Nat → Int} (h : CutK wr b A n g) (o : Obj) : CutK (wr.alloc o) b A n g := h.more ((Below.refl _ _).alloc (Nat.le_refl _) o)
theorem CutK.step {wr w' : World} {b n : Nat} {A : Option Addr} {g : Nat → Int} (h : CutK wr b A n g) (hO : Only b wr w') : CutK w' b A n g := by
  refine ⟨fun hn => ?_, h.2⟩
  obtain ⟨x, hx, hx1, hc⟩ := h.1 hn
  have hne := h.2 hn x hx
  exact ⟨x, hx, Nat.lt_of_lt_of_le hx1 hO.size, fun i hi => hO.cell (hc i hi) (by rw [Go.Proofs.YtmgglcfndhfceaaGreatDoor.addB]; exact hne)⟩
end Go.Proofs.YtmgglcfndhfceaaGreatDoor.Per
