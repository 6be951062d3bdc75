/-
  Layer 3 (calendar): Holidays and Workdays of the program and of the reference, errors too: both compute the same. Conditions: the list reads as rules; the table of month lengths reads as the program's text lays it.
-/
import Derived.Test.YtfoocingingpcaaDoorPrRh
import Derived.Test.YtfoocingingpcaaDoorPrRw
namespace Go.Proofs.YtfoocingingpcaaDoor
open Go Go.RowKit Go.Lib Go.Sort

set_option maxRecDepth 100000 in
set_option maxHeartbeats 1000000 in
theorem rhol_many (a : Option Addr) (n cap : Nat) (hn : 1024 < n) (hn' : n ≤ 9223372036854775807) (y : Int) (w : World) :
    Calls Tryd.prog 14 #[.slice a n cap, .int .i64 y] w (HolR [] 3 w) := by
  go_enter Tryd.func14, Tryd.ntmps14
  go_wp2_with (go_at_call 47; (with_reducible refine (rvalidL_many _ _ _ hn hn' _).mono ?_); rintro e w' ⟨rfl, rfl⟩)
  go_ret2
  exact HolR.of rfl (.inl ⟨rfl, _, _, rfl⟩) (Below.refl _ _)
set_option maxRecDepth 100000 in
set_option maxHeartbeats 1000000 in
theorem rhol_bad (a : Option Addr) (n cap : Nat) (hs : List Cal.Hol) (hn : n ≤ 1024) (y : Int) (hv : hs.all Cal.Hol.ok = false) (w : World) (hr : HolRow w w.heap.size a n hs) :
    Calls Tryd.prog 14 #[.slice a n cap, .int .i64 y] w (HolR [] 1 w) := by
  have C := Lib.hid (rvalidL_any a n cap hs hn w hr)
  rw [show vlE hs = 1 by unfold vlE; rw [hv]; rfl] at C
  clear hv hr
  go_enter Tryd.func14, Tryd.ntmps14
  go_wp2_with fail
  refine C.out.mono ?_
  rintro e w1 ⟨rfl, hw1⟩
  go_wp2_with fail
  go_ret2
  exact HolR.of rfl (.inl ⟨rfl, _, _, rfl⟩) hw1
set_option maxRecDepth 100000 in
set_option maxHeartbeats 1000000 in
theorem rhol_far (a : Option Addr) (n cap : Nat) (hs : List Cal.Hol) (hn : n ≤ 1024) (y : Int) (hy : y < 1970 ∨ 2199 < y) (hv : hs.all Cal.Hol.ok = true) (w : World) (hr : HolRow w w.heap.size a n hs) :
    Calls Tryd.prog 14 #[.slice a n cap, .int .i64 y] w (HolR [] 2 w) := by
  have C := Lib.hid (rvalidL_any a n cap hs hn w hr)
  rw [show vlE hs = 0 by unfold vlE; rw [hv]; rfl] at C
  clear hv hr
  go_enter Tryd.func14, Tryd.ntmps14
  go_wp2_with fail
  refine C.out.mono ?_
  rintro e w1 ⟨rfl, hw1⟩
  go_wp2_with (go_at_call 50; (with_reducible refine (rInYears_no _ hy _).mono ?_); rintro e w' ⟨rfl, rfl⟩)
  go_ret2
  exact HolR.of rfl (.inl ⟨rfl, _, _, rfl⟩) hw1
set_option maxRecDepth 100000 in
set_option maxHeartbeats 1000000 in
theorem cwork_bad (a : Option Addr) (n cap : Nat) (hs : List Cal.Hol) (hn : n ≤ 1024) (x y : Int) (hv : hs.all Cal.Hol.ok = false) (w : World) (hr : HolRow w w.heap.size a n hs) (hl : LgIs w) :
    Calls Tryd.prog 45 #[.slice a n cap, .int .i64 x, .int .i64 y] w fun e w' => e = .returned (.tuple #[.int .i64 0, .int .i64 1]) ∧ Below w.heap.size w w' := by
  have C := Lib.hid (validL_any a n cap hs hn w hr hl)
  rw [show vlE hs = 1 by unfold vlE; rw [hv]; rfl] at C
  clear hv hr
  go_enter Tryd.func45, Tryd.ntmps45
  go_wp2_with fail
  go_step3
  go_wp2_with fail
  refine C.out.mono ?_
  rintro e w1 ⟨rfl, hw1⟩
  go_wp2_with fail
  rw [Exit.noGoto_ret]
  go_ret2
  exact ⟨rfl, hw1⟩
set_option maxRecDepth 100000 in
set_option maxHeartbeats 1000000 in
theorem cwork_far1 (a : Option Addr) (n cap : Nat) (hs : List Cal.Hol) (hn : n ≤ 1024) (x y : Int) (hd : x < 0 ∨ 84005 < x) (hv : hs.all Cal.Hol.ok = true) (w : World) (hr : HolRow w w.heap.size a n hs) (hl : LgIs w) :
    Calls Tryd.prog 45 #[.slice a n cap, .int .i64 x, .int .i64 y] w fun e w' => e = .returned (.tuple #[.int .i64 0, .int .i64 2]) ∧ Below w.heap.size w w' := by
  have C := Lib.hid (validL_any a n cap hs hn w hr hl)
  rw [show vlE hs = 0 by unfold vlE; rw [hv]; rfl] at C
  clear hv hr
  go_enter Tryd.func45, Tryd.ntmps45
  go_wp2_with fail
  go_step3
  go_wp2_with fail
  refine C.out.mono ?_
  rintro e w1 ⟨rfl, hw1⟩
  go_wp2_with (go_at_call 48; (with_reducible refine (within_no _ _ _ hd _).mono ?_); rintro e w' ⟨rfl, rfl⟩)
  rw [Exit.noGoto_ret]
  go_ret2
  exact ⟨rfl, hw1⟩
set_option maxRecDepth 100000 in
set_option maxHeartbeats 1000000 in
theorem cwork_far2 (a : Option Addr) (n cap : Nat) (hs : List Cal.Hol) (hn : n ≤ 1024) (x y : Int) (x0 : 0 ≤ x) (x1 : x ≤ 84005) (hd : y < 0 ∨ 84005 < y) (hv : hs.all Cal.Hol.ok = true) (w : World) (hr : HolRow w w.heap.size a n hs) (hl : LgIs w) :
    Calls Tryd.prog 45 #[.slice a n cap, .int .i64 x, .int .i64 y] w fun e w' => e = .returned (.tuple #[.int .i64 0, .int .i64 2]) ∧ Below w.heap.size w w' := by
  have C := Lib.hid (validL_any a n cap hs hn w hr hl)
  rw [show vlE hs = 0 by unfold vlE; rw [hv]; rfl] at C
  clear hv hr
  go_enter Tryd.func45, Tryd.ntmps45
  go_wp2_with fail
  go_step3
  go_wp2_with fail
  refine C.out.mono ?_
  rintro e w1 ⟨rfl, hw1⟩
  go_wp2_with (first | (go_at_call 48; (with_reducible refine (within_yes _ _ _ (by omega) (by omega) _).mono ?_); rintro e w' ⟨rfl, rfl⟩) | (go_at_call 48; (with_reducible refine (within_no _ _ _ hd _).mono ?_); rintro e w' ⟨rfl, rfl⟩))
  rw [Exit.noGoto_ret]
  go_ret2
  exact ⟨rfl, hw1⟩
set_option maxRecDepth 100000 in
set_option maxHeartbeats 1000000 in
theorem rwork_bad (a : Option Addr) (n cap : Nat) (hs : List Cal.Hol) (hn : n ≤ 1024) (x y : Int) (hv : hs.all Cal.Hol.ok = false) (w : World) (hr : HolRow w w.heap.size a n hs) :
    Calls Tryd.prog 46 #[.slice a n cap, .int .i64 x, .int .i64 y] w fun e w' => e = .returned (.tuple #[.int .i64 0, .int .i64 1]) ∧ Below w.heap.size w w' := by
  have C := Lib.hid (rvalidL_any a n cap hs hn w hr)
  rw [show vlE hs = 1 by unfold vlE; rw [hv]; rfl] at C
  clear hv hr
  go_enter Tryd.func46, Tryd.ntmps46
  go_wp2_with fail
  refine C.out.mono ?_
  rintro e w1 ⟨rfl, hw1⟩
  go_wp2_with fail
  go_ret2
  exact ⟨rfl, hw1⟩
set_option maxRecDepth 100000 in
set_option maxHeartbeats 1000000 in
theorem rwork_far1 (a : Option Addr) (n cap : Nat) (hs : List Cal.Hol) (hn : n ≤ 1024) (x y : Int) (hd : x < 0 ∨ 84005 < x) (hv : hs.all Cal.Hol.ok = true) (w : World) (hr : HolRow w w.heap.size a n hs) :
    Calls Tryd.prog 46 #[.slice a n cap, .int .i64 x, .int .i64 y] w fun e w' => e = .returned (.tuple #[.int .i64 0, .int .i64 2]) ∧ Below w.heap.size w w' := by
  have C := Lib.hid (rvalidL_any a n cap hs hn w hr)
  rw [show vlE hs = 0 by unfold vlE; rw [hv]; rfl] at C
  clear hv hr
  go_enter Tryd.func46, Tryd.ntmps46
  go_wp2_with fail
  refine C.out.mono ?_
  rintro e w1 ⟨rfl, hw1⟩
  go_wp2_with (go_at_call 58; (with_reducible refine (rInDays_no _ hd _).mono ?_); rintro e w' ⟨rfl, rfl⟩)
  go_ret2
  exact ⟨rfl, hw1⟩
set_option maxRecDepth 100000 in
set_option maxHeartbeats 1000000 in
theorem rwork_far2 (a : Option Addr) (n cap : Nat) (hs : List Cal.Hol) (hn : n ≤ 1024) (x y : Int) (x0 : 0 ≤ x) (x1 : x ≤ 84005) (hd : y < 0 ∨ 84005 < y) (hv : hs.all Cal.Hol.ok = true) (w : World) (hr : HolRow w w.heap.size a n hs) :
    Calls Tryd.prog 46 #[.slice a n cap, .int .i64 x, .int .i64 y] w fun e w' => e = .returned (.tuple #[.int .i64 0, .int .i64 2]) ∧ Below w.heap.size w w' := by
  have C := Lib.hid (rvalidL_any a n cap hs hn w hr)
  rw [show vlE hs = 0 by unfold vlE; rw [hv]; rfl] at C
  clear hv hr
  go_enter Tryd.func46, Tryd.ntmps46
  go_wp2_with fail
  refine C.out.mono ?_
  rintro e w1 ⟨rfl, hw1⟩
  go_wp2_with (first | (go_at_call 58; (with_reducible refine (rInDays_yes _ (by omega) (by omega) _).mono ?_); rintro e w' ⟨rfl, rfl⟩) | (go_at_call 58; (with_reducible refine (rInDays_no _ hd _).mono ?_); rintro e w' ⟨rfl, rfl⟩))
  go_ret2
  exact ⟨rfl, hw1⟩

def holX (hs : List Cal.Hol) (y : Int) : List Int := if hs.all Cal.Hol.ok = true ∧ 1970 ≤ y ∧ y ≤ 2199 then canon (Cal.oneY hs y) else []
def holE (hs : List Cal.Hol) (y : Int) : Int := if hs.all Cal.Hol.ok = true then (if 1970 ≤ y ∧ y ≤ 2199 then 0 else 2) else 1
theorem holX_len (hs : List Cal.Hol) (y : Int) : (holX hs y).length ≤ hs.length := by
  unfold holX; split
  · exact Nat.le_trans (canon_len _) (Cal.oneY_len _ _)
  · simp
theorem hol_v {f : Nat} {a : Option Addr} {n cap : Nat} {hs : List Cal.Hol} {y : Int} {w : World}
    (h1 : hs.all Cal.Hol.ok = false → Calls Tryd.prog f #[.slice a n cap, .int .i64 y] w (HolR [] 1 w))
    (h2 : hs.all Cal.Hol.ok = true → (y < 1970 ∨ 2199 < y) → Calls Tryd.prog f #[.slice a n cap, .int .i64 y] w (HolR [] 2 w))
    (h3 : hs.all Cal.Hol.ok = true → 1970 ≤ y → y ≤ 2199 → Calls Tryd.prog f #[.slice a n cap, .int .i64 y] w (HolR (canon (Cal.oneY hs y)) 0 w)) :
    Calls Tryd.prog f #[.slice a n cap, .int .i64 y] w (HolR (holX hs y) (holE hs y) w) := by
  unfold holX holE
  rcases hv : hs.all Cal.Hol.ok with _ | _
  · rw [if_neg (by simp), if_neg (by simp)]; exact h1 hv
  · by_cases hy : 1970 ≤ y ∧ y ≤ 2199
    · rw [if_pos ⟨rfl, hy⟩, if_pos rfl, if_pos hy]; exact h3 hv hy.1 hy.2
    · rw [if_neg (fun c => hy c.2), if_pos rfl, if_neg hy]; exact h2 hv (by omega)
theorem chol_v (a : Option Addr) (n cap : Nat) (hs : List Cal.Hol) (hn : n ≤ 1024) (y : Int) (w : World) (hr : HolRow w w.heap.size a n hs) (hl : LgIs w) :
    Calls Tryd.prog 13 #[.slice a n cap, .int .i64 y] w (HolR (holX hs y) (holE hs y) w) :=
  hol_v (fun hv => hol_bad a n cap hs hn y hv w hr hl) (fun hv hy => hol_far a n cap hs hn y hy hv w hr hl) fun hv y0 y1 => hol_ok a n cap hs hn y y0 y1 hv w hr hl
theorem rhol_v (a : Option Addr) (n cap : Nat) (hs : List Cal.Hol) (hn : n ≤ 1024) (y : Int) (w : World) (hr : HolRow w w.heap.size a n hs) :
    Calls Tryd.prog 14 #[.slice a n cap, .int .i64 y] w (HolR (holX hs y) (holE hs y) w) :=
  hol_v (fun hv => rhol_bad a n cap hs hn y hv w hr) (fun hv hy => rhol_far a n cap hs hn y hy hv w hr) fun hv y0 y1 => rhol_ok a n cap hs hn y y0 y1 hv w hr
/-- The results of Workdays: Z the days that the rules name. -/
def wkV (Z : List Int) (ok : Bool) (x y : Int) : Int := if ok = true ∧ (0 ≤ x ∧ x ≤ 84005) ∧ 0 ≤ y ∧ y ≤ 84005 then Cal.cnt Z x (y - x + 1).toNat else 0
def wkE (ok : Bool) (x y : Int) : Int := if ok = true then (if (0 ≤ x ∧ x ≤ 84005) ∧ 0 ≤ y ∧ y ≤ 84005 then 0 else 2) else 1
theorem work_v {f : Nat} {a : Option Addr} {n cap : Nat} {Z : List Int} {ok : Bool} {x y : Int} {w : World}
    (h1 : ok = false → Calls Tryd.prog f #[.slice a n cap, .int .i64 x, .int .i64 y] w fun e w' => e = .returned (.tuple #[.int .i64 0, .int .i64 1]) ∧ Below w.heap.size w w')
    (h2 : ok = true → (x < 0 ∨ 84005 < x) → Calls Tryd.prog f #[.slice a n cap, .int .i64 x, .int .i64 y] w fun e w' => e = .returned (.tuple #[.int .i64 0, .int .i64 2]) ∧ Below w.heap.size w w')
    (h3 : ok = true → 0 ≤ x → x ≤ 84005 → (y < 0 ∨ 84005 < y) → Calls Tryd.prog f #[.slice a n cap, .int .i64 x, .int .i64 y] w fun e w' => e = .returned (.tuple #[.int .i64 0, .int .i64 2]) ∧ Below w.heap.size w w')
    (h4 : ok = true → 0 ≤ x → x ≤ 84005 → 0 ≤ y → y ≤ 84005 → Calls Tryd.prog f #[.slice a n cap, .int .i64 x, .int .i64 y] w fun e w' => e = .returned (.tuple #[.int .i64 (Cal.cnt Z x (y - x + 1).toNat), .int .i64 0]) ∧ Below w.heap.size w w') :
    Calls Tryd.prog f #[.slice a n cap, .int .i64 x, .int .i64 y] w fun e w' => e = .returned (.tuple #[.int .i64 (wkV Z ok x y), .int .i64 (wkE ok x y)]) ∧ Below w.heap.size w w' := by
  unfold wkV wkE
  rcases hv : ok with _ | _
  · rw [if_neg (by simp), if_neg (by simp)]; exact h1 hv
  · by_cases hx : 0 ≤ x ∧ x ≤ 84005
    · by_cases hy : 0 ≤ y ∧ y ≤ 84005
      · rw [if_pos ⟨rfl, hx, hy⟩, if_pos rfl, if_pos ⟨hx, hy⟩]; exact h4 hv hx.1 hx.2 hy.1 hy.2
      · rw [if_neg (fun c => hy c.2.2), if_pos rfl, if_neg (fun c => hy c.2)]; exact h3 hv hx.1 hx.2 (by omega)
    · rw [if_neg (fun c => hx c.2.1), if_pos rfl, if_neg (fun c => hx c.1)]; exact h2 hv (by omega)
theorem cwork_v (Z : List Int) (a : Option Addr) (n cap : Nat) (hs : List Cal.Hol) (hZ : Cal.nmAll hs = Z) (hn : n ≤ 1024) (x y : Int) (w : World) (hr : HolRow w w.heap.size a n hs) (hl : LgIs w) :
    Calls Tryd.prog 45 #[.slice a n cap, .int .i64 x, .int .i64 y] w fun e w' => e = .returned (.tuple #[.int .i64 (wkV Z (hs.all Cal.Hol.ok) x y), .int .i64 (wkE (hs.all Cal.Hol.ok) x y)]) ∧ Below w.heap.size w w' :=
  work_v (fun hv => cwork_bad a n cap hs hn x y hv w hr hl) (fun hv hx => cwork_far1 a n cap hs hn x y hx hv w hr hl) (fun hv x0 x1 hy => cwork_far2 a n cap hs hn x y x0 x1 hy hv w hr hl) fun hv x0 x1 y0 y1 => by
    subst hZ; exact work_ok a n cap hs hn x y x0 x1 y0 y1 hv w hr hl
theorem rwork_v (Z : List Int) (a : Option Addr) (n cap : Nat) (hs : List Cal.Hol) (hZ : Cal.nmAll hs = Z) (hn : n ≤ 1024) (x y : Int) (w : World) (hr : HolRow w w.heap.size a n hs) :
    Calls Tryd.prog 46 #[.slice a n cap, .int .i64 x, .int .i64 y] w fun e w' => e = .returned (.tuple #[.int .i64 (wkV Z (hs.all Cal.Hol.ok) x y), .int .i64 (wkE (hs.all Cal.Hol.ok) x y)]) ∧ Below w.heap.size w w' :=
  work_v (fun hv => rwork_bad a n cap hs hn x y hv w hr) (fun hv hx => rwork_far1 a n cap hs hn x y hx hv w hr) (fun hv x0 x1 hy => rwork_far2 a n cap hs hn x y x0 x1 hy hv w hr) fun hv x0 x1 y0 y1 => rwork_ok Z a n cap hs hZ hn x y x0 x1 y0 y1 hv w hr
end Go.Proofs.YtfoocingingpcaaDoor
