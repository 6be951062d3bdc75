/-
  Layer 6 (timeline): slices.Reverse at a row of slices; what the program's Slices holds behind each step. No condition.
-/
import Derived.Test.YtdpgmjmmnjbbiaaPrVg
namespace Go.Proofs.Ytdpgmjmmnjbbiaa.Tl
open Go Go.RowKit Go.Lib Go.Sort Go.Shelf Go.Proofs Go.Proofs.Ytdpgmjmmnjbbiaa Go.Proofs.Ytdpgmjmmnjbbiaa.Tp
set_option linter.unusedVariables false

/-- The steps that a prefix of the way back has met, in ascending order. -/
def rs (pre : List (Int × Chg)) : List Chg := (pre.map (·.2)).reverse
theorem rs_snoc (pre : List (Int × Chg)) (x : Int × Chg) : rs (pre ++ [x]) = x.2 :: rs pre := by simp [rs]
theorem rs_all (cs : List Chg) : rs (bkL cs) = cs := by unfold rs; rw [bkL_snd, List.reverse_reverse]
theorem rs_len (pre : List (Int × Chg)) : (rs pre).length = pre.length := by simp [rs]
def pr (fr td : Int) (pre : List (Int × Chg)) : List Slc := (sl fr td (rs pre)).reverse
theorem pr_snoc (fr td : Int) (pre : List (Int × Chg)) (x : Int × Chg) : pr fr td (pre ++ [x]) = pr fr td pre ++ part (max fr x.2.fr) (lastOf td (rs pre)) x.2.va := by
  unfold pr
  rw [rs_snoc, sl, List.reverse_append]
  congr 1
  unfold part; split <;> rfl
theorem pr_len (fr td : Int) : ∀ l : List Chg, (sl fr td l).length ≤ l.length
  | [] => Nat.le_refl _
  | c :: r => by
    have := pr_len fr td r
    rw [sl, List.length_append, List.length_cons]
    have : (part (max fr c.fr) (lastOf td r) c.va).length ≤ 1 := by unfold part; split <;> simp
    omega

def encL (s : Slc) : List Value := [.int .i64 s.fr, .int .i64 s.to, .int .i64 s.va]
theorem encL_one (c : Slc) : ∀ v ∈ encL c, v.oneCell' = true := by
  intro v hv
  simp [encL] at hv
  rcases hv with rfl | rfl | rfl <;> rfl
theorem fl3_eq (l : List Slc) : fl3 l = l.flatMap encL := rfl
theorem own_holds {w : World} {base g n cap : Nat} {l : List Slc} (h : w.ownsRow base 54 3 (.slice (some ⟨g, 0, none⟩) n cap) n (fl3 l)) (hn : l.length = n) : HoldsK encL 3 w g 0 l.toArray := by
  intro t ht
  rw [size_flatK] at ht
  rw [get_flatK _ _ _ _ ht, Nat.zero_add]
  have hs : l.toArray.size = n := by simpa using hn
  rw [hs] at ht
  have hq : t / 3 < l.length := by omega
  have a := fl3_at l (t / 3) hq
  refine ⟨?_, h.frozenAt t⟩
  have c := h.cellAt t (by omega)
  rw [c]
  have e : t = t / 3 * 3 + t % 3 := by omega
  have hm : t % 3 < 3 := by omega
  have hd : l.toArray[t / 3]! = l[t / 3]! := by rw [getElem!_pos l.toArray _ (by simpa using hq), getElem!_pos l _ hq]; simp
  rw [hd]
  generalize t % 3 = r at *
  generalize t / 3 = q at *
  subst e
  rcases r with _ | _ | _ | r
  · exact a.1
  · exact a.2.1
  · exact a.2.2
  · omega
theorem holds_cells {w : World} {g : Nat} {l : List Slc} (h : HoldsK encL 3 w g 0 l.toArray) : ∀ i, i < l.length → w.cell? ⟨g, i * 3, none⟩ = some (.int .i64 l[i]!.fr) ∧ w.cell? ⟨g, i * 3 + 1, none⟩ = some (.int .i64 l[i]!.to) ∧ w.cell? ⟨g, i * 3 + 2, none⟩ = some (.int .i64 l[i]!.va) := by
  intro i hi
  have hi' : i < l.toArray.size := by simpa using hi
  have k0 := (HoldsK.cell h (i := i) (c := 0) hi' (by omega)).1
  have k1 := (HoldsK.cell h (i := i) (c := 1) hi' (by omega)).1
  have k2 := (HoldsK.cell h (i := i) (c := 2) hi' (by omega)).1
  have hd : l.toArray[i]! = l[i]! := by rw [getElem!_pos l.toArray _ hi', getElem!_pos l _ hi]; simp
  rw [hd] at k0 k1 k2
  simp only [Nat.zero_add, Nat.add_zero] at k0 k1 k2
  exact ⟨k0, k1, k2⟩
theorem only_putRowS (w : World) (g n : Nat) (d : Array Slc) : Only g w (putRowK encL 3 (Go.Sort.ahead w n) g 0 d) := by
  refine ⟨rfl, rfl, rfl, ?_, fun k hk hne => ?_⟩
  · rw [size_putRowK]; exact Nat.le_refl _
  · simp [putRowK, putRow, mapBlock, Go.Sort.ahead, Array.getElem?_modify, Ne.symm hne]
/-- slices.Reverse at a row of slices of the call's own. -/
theorem rev_slc (g cap : Nat) (l : List Slc) (w : World) (hr : HoldsK encL 3 w g 0 l.toArray) (hsz : l.length ≤ 1000000) :
    Calls Try.prog 38 #[.slice (some ⟨g, 0, none⟩) l.length cap] w fun e w' => e = .returned (.tuple #[]) ∧ HoldsK encL 3 w' g 0 l.reverse.toArray ∧ Only g w w' := by
  have hcon := AnyQ.slices_Reverse Try.revS 3 Try.isAgg54 Try.sizeOf54 encL (fun _ => rfl) encL_one g 0 cap l.toArray w hr (by simp; omega)
  simp only [List.size_toArray] at hcon
  refine hcon.mono ?_
  rintro e w' ⟨rfl, n, rfl⟩
  refine ⟨rfl, ?_, only_putRowS w g n _⟩
  have : l.reverse.toArray = l.toArray.reverse := by simp
  rw [this]
  exact holdsK_putRowK encL 3 _ g 0 l.toArray _ (holdsK_ahead encL 3 w n g 0 l.toArray hr) Array.size_reverse
theorem rev_slc_none (cap : Nat) (w : World) : Calls Try.prog 38 #[.slice none 0 cap] w fun e w' => e = .returned (.tuple #[]) ∧ w' = w :=
  @AnyQ.slices_Reverse_empty _ _ Try.revS none cap w
end Go.Proofs.Ytdpgmjmmnjbbiaa.Tl
