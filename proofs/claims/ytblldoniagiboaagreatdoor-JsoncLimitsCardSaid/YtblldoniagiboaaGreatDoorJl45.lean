/- What the texts of JsoncLimits are read as -/
import Derived.Test.YtblldoniagiboaaGreatDoorJl44
namespace Go.Proofs.YtblldoniagiboaaGreatDoor
open Go.RowKit Go.Shelf
set_option linter.unusedVariables false

def nest (n : Nat) : ByteArray := ⟨(List.replicate n (91 : UInt8) ++ List.replicate n (93 : UInt8)).toArray⟩
def nestR (n : Nat) : Bool := match wholeJ (nest n) with
  | .ok _ => decide (1 ≤ n ∧ n ≤ 24)
  | .error (c, l) => if n = 0 then decide (c = 30 ∧ l = 0) else decide (24 < n ∧ c = 7 ∧ (nest n).size - l = 24)
set_option maxRecDepth 1000000 in
theorem nest_all : (List.range 40).all nestR = true := by kernel_rfl
theorem skipB_no {c : UInt8} {R : List UInt8} (h : blankB c = false) : skipB (c :: R) = c :: R := by
  unfold skipB
  rw [List.dropWhile_cons, if_neg (by rw [h]; decide)]
theorem skipB_sp (n : Nat) (R : List UInt8) : skipB (List.replicate n 32 ++ R) = skipB R := by
  induction n with
  | zero => rfl
  | succ n ih =>
    rw [List.replicate_succ, List.cons_append]
    unfold skipB at *
    rw [List.dropWhile_cons, if_pos (by decide)]
    exact ih
/-- So many ones, each with its comma. -/
def ones : Nat → List UInt8 → List UInt8
  | 0, R => R
  | k + 1, R => 49 :: 44 :: ones k R
theorem num_single {x : UInt8} {R : List UInt8} (hx : digJ x = true) (h45 : (x == 45) = false) (h48 : (x == 48) = false) (ht : R.takeWhile digJ = []) : numJ (x :: R) = .ok (⟨#[x]⟩, R) := by
  have p : ∀ q : UInt8, (x == q) = false → Lib.hasPrefix (x :: R) [q] = false := fun q hq => by
    have hne : ¬ q = x := fun e => by rw [e] at hq; simp at hq
    simp [Lib.hasPrefix, List.isPrefixOf, hne]
  have e0 : digsAt (x :: R) = x :: R := by unfold digsAt; rw [if_neg (by rw [p 45 h45]; decide)]
  have e3 : digsJ (x :: R) = [x] := by
    unfold digsJ
    rw [if_neg (by rw [p 48 h48]; decide), List.takeWhile_cons, if_pos hx, ht]
  have h := numJ_ok (R := x :: R) (by rw [e0]; simpa using hx) (by rw [e0, e3]; simp)
  rw [h, e0, e3]
  have hne : ¬ [x] = [48] := fun e => by
    have := List.cons.inj e
    rw [this.1] at h48
    cases h48
  rw [if_neg hne]
  simp
theorem numJ_one {c : UInt8} {R : List UInt8} (h : digJ c = false) : numJ (49 :: c :: R) = .ok (⟨#[49]⟩, c :: R) := num_single (by decide) (by decide) (by decide) (by rw [List.takeWhile_cons, if_neg (by rw [h]; decide)])
theorem val_one {d n : Nat} {c : UInt8} {R : List UInt8} (hn : ¬ n = 2000) (h : digJ c = false) : valJ (d + 1) (49 :: c :: R) n = .ok (intT ⟨#[49]⟩, c :: R, n + 1) := by
  have hs : skipB (49 :: c :: R) = 49 :: c :: R := skipB_no (by decide)
  rw [valJ_num (x := 49) hn (by rw [hs]; rfl) (by decide) (by decide) (by decide) (.inr (by decide)), hs, numJ_one h]
  rfl
/-- A list of ones, up to the last one, which has no comma behind it but q. -/
theorem seq_ones (d : Nat) : ∀ (k f n : Nat) (st : List VT) (R : List UInt8), k < f → n + k + 1 ≤ 2000 → ∃ st', seqJ (itemJ (valJ (d + 1))) 93 f st (ones k (49 :: 93 :: R)) n = .ok (st', R, n + k + 1)
  | 0, f, n, st, R, hf, hn => by
    obtain ⟨f, rfl⟩ : ∃ g, f = g + 1 := ⟨f - 1, by omega⟩
    refine ⟨st ++ [intT ⟨#[49]⟩], ?_⟩
    have hi : itemJ (valJ (d + 1)) st (49 :: 93 :: R) n = .ok (st ++ [intT ⟨#[49]⟩], 93 :: R, n + 1) := by unfold itemJ; rw [val_one (by omega) (by decide)]
    exact seqJ_end hi (by rw [skipB_no (by decide)]; rfl)
  | k + 1, f, n, st, R, hf, hn => by
    obtain ⟨f, rfl⟩ : ∃ g, f = g + 1 := ⟨f - 1, by omega⟩
    obtain ⟨st', h⟩ := seq_ones d k f (n + 1) (st ++ [intT ⟨#[49]⟩]) R (by omega) (by omega)
    refine ⟨st', ?_⟩
    have hi : itemJ (valJ (d + 1)) st (49 :: 44 :: ones k (49 :: 93 :: R)) n = .ok (st ++ [intT ⟨#[49]⟩], 44 :: ones k (49 :: 93 :: R), n + 1) := by unfold itemJ; rw [val_one (by omega) (by decide)]
    have hs : skipB (44 :: ones k (49 :: 93 :: R)) = 44 :: ones k (49 :: 93 :: R) := skipB_no (by decide)
    show seqJ _ 93 (f + 1) st (49 :: 44 :: ones k (49 :: 93 :: R)) n = _
    rw [seqJ_more hi (by rw [hs]; rfl) (by rw [hs]; rfl), hs]
    show seqJ _ 93 f _ (ones k (49 :: 93 :: R)) (n + 1) = _
    rw [h, show n + 1 + k + 1 = n + (k + 1) + 1 by omega]
/-- One too many. -/
theorem seq_many (d : Nat) : ∀ (k f n : Nat) (st : List VT) (R : List UInt8), k < f → n + k = 2000 → seqJ (itemJ (valJ (d + 1))) 93 f st (ones k (49 :: R)) n = .error (3, (49 :: R).length)
  | 0, f, n, st, R, hf, hn => by
    obtain ⟨f, rfl⟩ : ∃ g, f = g + 1 := ⟨f - 1, by omega⟩
    have hi : itemJ (valJ (d + 1)) st (49 :: R) n = .error (3, (49 :: R).length) := by
      unfold itemJ
      rw [valJ_long (by omega), skipB_no (by decide)]
    exact seqJ_err hi
  | k + 1, f, n, st, R, hf, hn => by
    obtain ⟨f, rfl⟩ : ∃ g, f = g + 1 := ⟨f - 1, by omega⟩
    have h := seq_many d k f (n + 1) (st ++ [intT ⟨#[49]⟩]) R (by omega) (by omega)
    have hi : itemJ (valJ (d + 1)) st (49 :: 44 :: ones k (49 :: R)) n = .ok (st ++ [intT ⟨#[49]⟩], 44 :: ones k (49 :: R), n + 1) := by unfold itemJ; rw [val_one (by omega) (by decide)]
    have hs : skipB (44 :: ones k (49 :: R)) = 44 :: ones k (49 :: R) := skipB_no (by decide)
    show seqJ _ 93 (f + 1) st (49 :: 44 :: ones k (49 :: R)) n = _
    rw [seqJ_more hi (by rw [hs]; rfl) (by rw [hs]; rfl), hs]
    exact h
theorem ones_length (k : Nat) (R : List UInt8) : (ones k R).length = 2 * k + R.length := by
  induction k with
  | zero => simp [ones]
  | succ k ih => simp [ones, ih]; omega
theorem list_ones {t : ByteArray} {R : List UInt8} (k : Nat) (hk : 0 < k) (ht : t.data.toList = 91 :: ones (k - 1) (49 :: R)) : valJ 24 (rest t 0) 0 = listR (seqJ (itemJ (valJ 23)) 93 (rest t 0).length [] (ones (k - 1) (49 :: R)) 1) := by
  have hr : rest t 0 = 91 :: ones (k - 1) (49 :: R) := by unfold rest; rw [List.drop_zero, ht]
  have hs : skipB (rest t 0) = 91 :: ones (k - 1) (49 :: R) := by rw [hr]; exact skipB_no (by decide)
  rw [valJ_list (by decide) hs, hr]
  have hone : skipB (ones (k - 1) (49 :: R)) = ones (k - 1) (49 :: R) := by
    cases k - 1 with
    | zero => exact skipB_no (by decide)
    | succ j => exact skipB_no (by decide)
  have hq : Lib.hasPrefix (ones (k - 1) (49 :: R)) [93] = false := by
    cases k - 1 with
    | zero => rfl
    | succ j => rfl
  unfold eachJ
  simp only [List.drop_one, List.tail_cons, hone]
  rw [if_neg (by rw [hq]; decide)]
theorem list_full {t : ByteArray} (ht : t.data.toList = 91 :: ones 1998 [49, 93]) : ∃ T, wholeJ t = .ok T := by
  have hl := list_ones (t := t) (R := [93]) 1999 (by decide) ht
  have hsz : t.size = 1 + (2 * 1998 + 2) := by rw [Lib.size_eq, ht, List.length_cons, ones_length]; rfl
  obtain ⟨st', h⟩ := seq_ones 22 1998 (rest t 0).length 1 [] [] (by rw [rest_length]; omega) (by decide)
  rw [h] at hl
  exact ⟨_, wholeJ_ok (by omega) hl rfl⟩
theorem list_more {t : ByteArray} (ht : t.data.toList = 91 :: ones 1999 [49, 93]) : wholeJ t = .error (3, 2) := by
  have hl := list_ones (t := t) (R := [93]) 2000 (by decide) ht
  have hsz : t.size = 1 + (2 * 1999 + 2) := by rw [Lib.size_eq, ht, List.length_cons, ones_length]; rfl
  have h := seq_many 22 1999 (rest t 0).length 1 [] [93] (by rw [rest_length]; omega) (by decide)
  rw [h] at hl
  exact wholeJ_err (by omega) hl
theorem wide_ok {t : ByteArray} {n m : Nat} (ht : t.data.toList = List.replicate n 32 ++ 55 :: List.replicate m 32) (hnm : n + m + 1 ≤ 65536) : ∃ T, wholeJ t = .ok T := by
  have hsz : t.size = n + m + 1 := by rw [Lib.size_eq, ht]; simp; omega
  have hs : skipB (rest t 0) = 55 :: List.replicate m 32 := by
    unfold rest
    rw [List.drop_zero, ht, skipB_sp]
    exact skipB_no (by decide)
  have hn : numJ (55 :: List.replicate m 32) = .ok (⟨#[55]⟩, List.replicate m 32) := num_single (by decide) (by decide) (by decide) (by
    cases m with
    | zero => rfl
    | succ m => rw [List.replicate_succ, List.takeWhile_cons, if_neg (by decide)])
  have hv := valJ_num (d := 23) (n := 0) (R := rest t 0) (x := 55) (by decide) (by rw [hs]; rfl) (by decide) (by decide) (by decide) (.inr (by decide))
  rw [hs, hn] at hv
  refine ⟨_, wholeJ_ok (by omega) hv ?_⟩
  have := skipB_sp m []
  rw [List.append_nil] at this
  exact this
end Go.Proofs.YtblldoniagiboaaGreatDoor
