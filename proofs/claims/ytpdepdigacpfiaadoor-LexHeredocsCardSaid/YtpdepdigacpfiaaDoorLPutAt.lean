/- put, told of the parts so far. -/
import Derived.Test.YtpdepdigacpfiaaDoorLPut
namespace Go.Proofs.YtpdepdigacpfiaaDoor
open Go.RowKit Go.Shelf
set_option linter.unusedVariables false

theorem gap_size (d : Nat) : (⟨(gapB d).toArray⟩ : ByteArray).size ≤ 8 := by
  show (gapB d).toArray.size ≤ 8
  rw [List.size_toArray]
  exact gap_len d
def txB (d : Nat) (ps : List Part) : ByteArray := ⟨(flat d ps).toArray⟩
theorem txB_size (d : Nat) (ps : List Part) : (txB d ps).size = (flat d ps).length := by show (flat d ps).toArray.size = _; rw [List.size_toArray]
theorem flat_one (d : Nat) (x : Part) : flat d [x] = x.2 ++ gapB d := by unfold flat; simp
theorem bytes_app (a b : List UInt8) : (⟨a.toArray⟩ : ByteArray) ++ ⟨b.toArray⟩ = ⟨(a ++ b).toArray⟩ := by
  apply ByteArray.ext
  rw [ByteArray.data_append]
  simp
theorem txB_step (d : Nat) (ps : List Part) (x : Part) : txB d ps ++ (⟨x.2.toArray⟩ ++ ⟨(gapB d).toArray⟩) = txB d (ps ++ [x]) := by
  unfold txB
  rw [bytes_app, bytes_app, flat_app, flat_one]
theorem toks_step (d : Nat) (ps : List Part) (x : Part) : toks d 0 (ps ++ [x]) = toks d 0 ps ++ tok1 d (flat d ps).length x := by
  rw [toks_app, Nat.zero_add, toks_cons]
  show _ ++ (_ ++ []) = _
  rw [List.append_nil]
theorem flat_step_len {d : Nat} {ps : List Part} {x : Part} {L : Nat} (h : (flat d ps).length ≤ L) (hx : x.2.length ≤ 3) : (flat d (ps ++ [x])).length ≤ L + 11 := by
  have := gap_len d
  rw [flat_app, flat_one]
  simp only [List.length_append]
  omega
theorem put_at {w : World} {lo P3 P5 P6 P7 d B : Nat} {ps : List Part} {x : Part} {s : ByteArray} (h : Env lo w P3 P5 P6 P7 d ⟨(gapB d).toArray⟩ (txB d ps) (toks d 0 ps)) (h3 : P3 < lo) (h5 : P5 < lo) (h6 : P6 < lo) (h7 : P7 < lo) (hlo : lo ≤ w.heap.size)
    (hd35 : P3 ≠ P6 ∧ P3 ≠ P7) (hd56 : P5 ≠ P6 ∧ P5 ≠ P7) (hd67 : P6 ≠ P7) (hB : B ≤ P3 ∧ B ≤ P5 ∧ B ≤ P6 ∧ B ≤ P7) (hs : s = ⟨x.2.toArray⟩) (hx : 1 ≤ x.2.length ∧ x.2.length ≤ 3) (hl : (flat d ps).length ≤ 100000) (hps : ps.length ≤ 1000) :
    Calls Tryd.prog 11 #[.int .i64 x.1, .string s, .pointer (some ⟨P7, 0, none⟩), .pointer (some ⟨P6, 0, none⟩), .pointer (some ⟨P5, 0, none⟩), .pointer (some ⟨P3, 0, none⟩)] w fun e w' => e = .returned (.tuple #[]) ∧ Below B w w' ∧ Env lo w' P3 P5 P6 P7 d ⟨(gapB d).toArray⟩ (txB d (ps ++ [x])) (toks d 0 (ps ++ [x])) := by
  have hss : s.size = x.2.length := by rw [hs]; show x.2.toArray.size = _; rw [List.size_toArray]
  have hg := gap_size d
  have hw := toks_length d ps 0
  have hts := txB_size d ps
  have ht : txB d (ps ++ [x]) = txB d ps ++ (s ++ ⟨(gapB d).toArray⟩) := by rw [← txB_step, hs]
  by_cases hd : d = 7
  · refine (put_seven h h3 h5 h6 h7 hlo hd35 hd56 hd67 hB (by omega) (by omega) (by omega) (by omega) hd (by omega)).mono ?_
    rintro e w' ⟨rfl, hb, he⟩
    refine ⟨rfl, hb, ?_⟩
    rw [ht, toks_step]
    unfold tok1
    rw [if_pos hd]
    have e1 : (txB d ps ++ (s ++ ⟨(gapB d).toArray⟩)).size - 1 = (flat d ps).length + (x.2 ++ gapB d).length - 1 := by
      have : (⟨(gapB d).toArray⟩ : ByteArray).size = (gapB d).length := by show (gapB d).toArray.size = _; rw [List.size_toArray]
      rw [ByteArray.size_append, ByteArray.size_append, hts, hss, this, List.length_append]
    rw [e1, hts, hs, List.append_assoc] at he
    rw [hs]
    exact he
  · refine (put_plain h h3 h5 h6 h7 hlo hd35 hd56 hd67 hB (by omega) (by omega) (by omega) (by omega) hd).mono ?_
    rintro e w' ⟨rfl, hb, he⟩
    refine ⟨rfl, hb, ?_⟩
    rw [ht, toks_step]
    unfold tok1
    rw [if_neg hd]
    rw [hts, hs] at he
    rw [hs]
    exact he
theorem Env.below {lo P3 P5 P6 P7 d : Nat} {w w' : World} {gap text : ByteArray} {want : List Tk} (h : Env lo w P3 P5 P6 P7 d gap text want) (hb : Below w.heap.size w w') : Env lo w' P3 P5 P6 P7 d gap text want := by
  obtain ⟨h1, h2, h3, v, h4, h5⟩ := h
  exact ⟨h1.below hb, h2.below hb, h3.below hb, v, h4.below hb, row_below' h5 hb⟩
theorem nm_len (i : Nat) : 1 ≤ (nmP i).2.length ∧ (nmP i).2.length ≤ 3 := ⟨by show 1 ≤ 3; omega, by show 3 ≤ 3; omega⟩
theorem nu_len2 (i : Nat) : 1 ≤ (nuP i).2.length ∧ (nuP i).2.length ≤ 3 := ⟨by show 1 ≤ 2; omega, by show 2 ≤ 3; omega⟩
theorem sgB_len : ∀ k, 1 ≤ (sgB k).length ∧ (sgB k).length ≤ 3
  | 0 => by decide
  | 1 => by decide
  | 2 => by decide
  | 3 => by decide
  | k + 4 => by show 1 ≤ 1 ∧ 1 ≤ 3; omega
theorem sg_len (i : Nat) : 1 ≤ (sgP i).2.length ∧ (sgP i).2.length ≤ 3 := sgB_len _
theorem parts_step (n : Nat) : parts (n + 1) = ((parts n ++ [nmP n]) ++ [nuP n]) ++ [sgP n] := by
  show parts n ++ [nmP n, nuP n, sgP n] = _
  simp
theorem flat_parts_len {d : Nat} : ∀ n, (flat d (parts n)).length ≤ 33 * n
  | 0 => by simp [parts, flat]
  | n + 1 => by
    have h0 := flat_parts_len (d := d) n
    have h1 := flat_step_len (x := nmP n) h0 (nm_len n).2
    have h2 := flat_step_len (x := nuP n) h1 (nu_len2 n).2
    have h3 := flat_step_len (x := sgP n) h2 (sg_len n).2
    rw [parts_step]
    omega
end Go.Proofs.YtpdepdigacpfiaaDoor
