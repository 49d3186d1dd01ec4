/- Texts of names, numbers and signs, in eight dresses, and their tokens. -/
import Derived.Test.YtpdepdigacpfiaaDoorLAsc
import Derived.KernelRfl
namespace Go.Proofs.YtpdepdigacpfiaaDoor
open Go.RowKit
set_option linter.unusedVariables false

def gapB : Nat → List UInt8
  | 0 => [32]
  | 1 => [9]
  | 2 => [13, 32]
  | 3 => [47, 42, 42, 47]
  | 4 => [32, 47, 42, 32, 34, 32, 42, 47]
  | 5 => [47, 42, 10, 42, 47]
  | 6 => [32, 32]
  | _ => [32, 47, 47, 120, 10]
abbrev Part := Int × List UInt8
def flat (d : Nat) (ps : List Part) : List UInt8 := ps.flatMap fun x => x.2 ++ gapB d
theorem flat_cons (d : Nat) (x : Part) (ps : List Part) : flat d (x :: ps) = x.2 ++ (gapB d ++ flat d ps) := by unfold flat; rw [List.flatMap_cons, List.append_assoc]
theorem flat_app (d : Nat) (a b : List Part) : flat d (a ++ b) = flat d a ++ flat d b := by unfold flat; rw [List.flatMap_append]
/-- The tokens of one part that begins at byte p. -/
def tok1 (d p : Nat) (x : Part) : List Tk := ⟨x.1, ⟨x.2.toArray⟩, p⟩ :: (if d = 7 then [⟨5, ⟨#[10]⟩, p + (x.2 ++ gapB d).length - 1⟩] else [])
def toks (d : Nat) : Nat → List Part → List Tk
  | _, [] => []
  | p, x :: ps => tok1 d p x ++ toks d (p + (x.2 ++ gapB d).length) ps
theorem toks_cons (d p : Nat) (x : Part) (ps : List Part) : toks d p (x :: ps) = tok1 d p x ++ toks d (p + (x.2 ++ gapB d).length) ps := rfl
theorem toks_app (d : Nat) : ∀ (a b : List Part) (p : Nat), toks d p (a ++ b) = toks d p a ++ toks d (p + (flat d a).length) b
  | [], b, p => by show _ = [] ++ toks d (p + 0) b; simp
  | x :: a, b, p => by
    show tok1 d p x ++ toks d _ (a ++ b) = (tok1 d p x ++ toks d _ a) ++ _
    rw [toks_app d a b, List.append_assoc, flat_cons]
    congr 3
    simp only [List.length_append]
    omega
theorem tok1_length (d p : Nat) (x : Part) : (tok1 d p x).length ≤ 2 := by
  unfold tok1
  split <;> simp
theorem toks_length (d : Nat) : ∀ (ps : List Part) (p : Nat), (toks d p ps).length ≤ 2 * ps.length
  | [], p => by simp [toks]
  | x :: ps, p => by
    have h1 := tok1_length d p x
    have h2 := toks_length d ps (p + (x.2 ++ gapB d).length)
    unfold toks
    simp only [List.length_append, List.length_cons] at *
    omega
structure Wears (d : Nat) (x : Part) : Prop where
  next : ∀ S, nextL (x.2 ++ (gapB d ++ S)) = (x.1, .ok (x.2, gapB d ++ S))
  head : ∃ c r, x.2 = c :: r ∧ bytesIn [32, 9, 13] c = false ∧ c ≠ 35 ∧ c ≠ 47
  asc : ∀ c ∈ x.2, c.toNat < 128
  len : x.2.length ≤ 3
theorem gap_asc : ∀ d, ∀ c ∈ gapB d, c.toNat < 128
  | 0 => by decide
  | 1 => by decide
  | 2 => by decide
  | 3 => by decide
  | 4 => by decide
  | 5 => by decide
  | 6 => by decide
  | k + 7 => by show ∀ c ∈ ([32, 47, 47, 120, 10] : List UInt8), c.toNat < 128; decide
theorem gap_len : ∀ d, (gapB d).length ≤ 8
  | 0 => by decide
  | 1 => by decide
  | 2 => by decide
  | 3 => by decide
  | 4 => by decide
  | 5 => by decide
  | 6 => by decide
  | k + 7 => by show ([32, 47, 47, 120, 10] : List UInt8).length ≤ 8; decide
theorem between_remark {c : UInt8} {R R' : List UInt8} (h : bytesIn [32, 9, 13] c = false) (hr : remarkL (c :: R) = some R') : betweenA (c :: R) = betweenA R' :=
  betweenA_remark (by rw [List.dropWhile_cons_of_neg (by rw [h]; decide)]; omega) hr
theorem between_gap {d : Nat} (h : d < 7) (S : List UInt8) : betweenA (gapB d ++ S) = betweenA S := by
  rcases (show d = 0 ∨ d = 1 ∨ d = 2 ∨ d = 3 ∨ d = 4 ∨ d = 5 ∨ d = 6 by omega) with rfl | rfl | rfl | rfl | rfl | rfl | rfl
  · exact between_blank (by decide)
  · exact between_blank (by decide)
  · exact (between_blank (R := 32 :: S) (by decide)).trans (between_blank (by decide))
  · exact between_remark (R := 42 :: 42 :: 47 :: S) (by decide) (by rfl)
  · exact (between_blank (R := 47 :: 42 :: 32 :: 34 :: 32 :: 42 :: 47 :: S) (by decide)).trans (between_remark (by decide) (by rfl))
  · exact between_remark (R := 42 :: 10 :: 42 :: 47 :: S) (by decide) (by rfl)
  · exact (between_blank (R := 32 :: S) (by decide)).trans (between_blank (by decide))
theorem between_gap7 (S : List UInt8) : betweenA (gapB 7 ++ S) = 10 :: S :=
  ((between_blank (R := 47 :: 47 :: 120 :: 10 :: S) (by decide)).trans (between_remark (by decide) (by rfl))).trans (between_token (by decide) (by decide) (by decide))
theorem next_line (S : List UInt8) : nextL (10 :: S) = (5, .ok ([10], S)) := rfl
theorem scan_parts {d : Nat} (hd : d < 8) : ∀ (ps : List Part) (p : Nat) (acc : List Tk), (∀ x ∈ ps, Wears d x) → acc.length + 2 * ps.length ≤ 4096 → tokA (p + (flat d ps).length) (betweenA (flat d ps)) acc = .ok (acc ++ toks d p ps)
  | [], p, acc, _, _ => by
    show tokA _ (betweenA []) acc = .ok (acc ++ [])
    rw [between_nil, tokA_nil, List.append_nil]
  | x :: ps, p, acc, h, hm => by
    have hx := h x List.mem_cons_self
    obtain ⟨c, r, hc, h1, h2, h3⟩ := hx.head
    simp only [List.length_cons] at hm
    have hb : betweenA (flat d (x :: ps)) = flat d (x :: ps) := by
      rw [flat_cons, hc]
      exact between_token h1 h2 h3
    have hne : flat d (x :: ps) ≠ [] := by rw [flat_cons, hc]; simp
    have hn : nextL (flat d (x :: ps)) = (x.1, .ok (x.2, gapB d ++ flat d ps)) := by rw [flat_cons]; exact hx.next _
    have hlen : (flat d (x :: ps)).length = (x.2 ++ gapB d).length + (flat d ps).length := by rw [flat_cons]; simp only [List.length_append]; omega
    rw [hb, tokA_ok hne hn (by omega), show p + (flat d (x :: ps)).length - (flat d (x :: ps)).length = p by omega, hlen]
    have ih := fun acc' hacc => scan_parts hd ps (p + (x.2 ++ gapB d).length) acc' (fun y hy => h y (List.mem_cons_of_mem _ hy)) hacc
    by_cases h7 : d = 7
    · subst h7
      have h8 : 1 ≤ (x.2 ++ gapB 7).length := by rw [hc]; simp
      rw [between_gap7, tokA_ok (by simp) (next_line _) (by simp; omega), ← Nat.add_assoc, ih _ (by simp; omega)]
      rw [toks_cons]
      unfold tok1
      simp only [List.length_cons, List.append_assoc, List.cons_append, List.nil_append, if_true]
      rw [show p + (x.2 ++ gapB 7).length + (flat 7 ps).length - ((flat 7 ps).length + 1) = p + (x.2 ++ gapB 7).length - 1 by omega]
    · rw [between_gap (by omega), ← Nat.add_assoc, ih _ (by simp; omega)]
      rw [toks_cons]
      unfold tok1
      rw [if_neg h7, List.append_assoc]
theorem scan_flat {d : Nat} (hd : d < 8) {ps : List Part} (h : ∀ x ∈ ps, Wears d x) (hl : ps.length ≤ 300) : scanL ⟨(flat d ps).toArray⟩ = .ok (toks d 0 ps) := by
  have hsz : (⟨(flat d ps).toArray⟩ : ByteArray).size = (flat d ps).length := by show (flat d ps).toArray.size = _; simp
  have hlen : (flat d ps).length ≤ 11 * ps.length := by
    clear hsz hl
    induction ps with
    | nil => simp [flat]
    | cons x ps ih =>
      have h1 := ih (fun y hy => h y (List.mem_cons_of_mem _ hy))
      have h2 := (h x List.mem_cons_self).len
      have h3 := gap_len d
      rw [flat_cons]
      simp only [List.length_append, List.length_cons]
      omega
  rw [scan_ascii (fun c hc => ?_) (by rw [hsz]; omega)]
  · have := scan_parts hd ps 0 [] h (by simp; omega)
    rw [Nat.zero_add, List.nil_append] at this
    rw [hsz]
    exact this
  · have hc' : c ∈ flat d ps := hc
    unfold flat at hc'
    rw [List.mem_flatMap] at hc'
    obtain ⟨x, hx, hcx⟩ := hc'
    rcases List.mem_append.1 hcx with h1 | h1
    · exact (h x hx).asc c h1
    · exact gap_asc d c h1

/-! ### the parts -/
theorem next_name {c g : UInt8} {S : List UInt8} (hc : wordB c = true) (hg : wordB g = false) : nextL (110 :: 45 :: c :: g :: S) = (1, .ok ([110, 45, c], g :: S)) := by
  have hw : wordL (110 :: 45 :: c :: g :: S) = g :: S := by
    rw [wordL_cons, if_pos (by decide), List.dropWhile_cons_of_pos (by decide), List.dropWhile_cons_of_pos hc, List.dropWhile_cons_of_neg (by rw [hg]; decide)]
  have hn : nextL (110 :: 45 :: c :: g :: S) = (1, nameL (110 :: 45 :: c :: g :: S)) := rfl
  rw [hn]
  unfold nameL
  rw [hw, if_neg (by simp only [List.length_cons]; omega)]
  unfold tookL
  rw [show (110 :: 45 :: c :: g :: S : List UInt8).length - (g :: S).length = 3 by simp only [List.length_cons]; omega]
  rfl
theorem next_number {a b g : UInt8} {S : List UInt8} (ha : digB a = true) (ha2 : a ≠ 10 ∧ a ≠ 34 ∧ a ≠ 60) (hb : digB b = true) (hgood : goodB [a, b] = true) (hg : digB g = false) (hg2 : letB g = false) : nextL (a :: b :: g :: S) = (2, .ok ([a, b], g :: S)) := by
  have hd : (a :: b :: g :: S).dropWhile digB = g :: S := by
    rw [List.dropWhile_cons_of_pos ha, List.dropWhile_cons_of_pos hb, List.dropWhile_cons_of_neg (by rw [hg]; decide)]
  have hp : Lib.hasPrefix (a :: b :: g :: S) [60, 60] = false := by
    have e : ((60 : UInt8) == a) = false := beq_eq_false_iff_ne.2 (Ne.symm ha2.2.2)
    simp [Lib.hasPrefix, List.isPrefixOf, e]
  have hn : nextL (a :: b :: g :: S) = (2, numberL (a :: b :: g :: S)) := by
    unfold nextL
    simp only
    rw [if_neg ha2.1, if_neg ha2.2.1, hp, if_neg (by decide), if_pos ha]
  rw [hn]
  unfold numberL
  have hw : wordL (g :: S) = g :: S := by rw [wordL_cons, if_neg (by rw [hg2]; decide)]
  have ht : tookL (a :: b :: g :: S) (g :: S) = [a, b] := by
    unfold tookL
    rw [show (a :: b :: g :: S : List UInt8).length - (g :: S).length = 2 by simp only [List.length_cons]; omega]
    rfl
  rw [hd, hw, ht, if_neg (by omega), if_pos hgood]
def sgB : Nat → List UInt8
  | 0 => [61, 61]
  | 1 => [61]
  | 2 => [60, 61]
  | 3 => [60]
  | _ => [33]
def nmP (i : Nat) : Part := (1, [110, 45, UInt8.ofNat (97 + i % 26)])
def nuP (i : Nat) : Part := (2, [UInt8.ofNat (49 + i % 9), UInt8.ofNat (48 + i / 10)])
def sgP (i : Nat) : Part := (4, sgB (i % 5))
theorem nm_chr : ∀ k, k < 26 → wordB (UInt8.ofNat (97 + k)) = true ∧ (UInt8.ofNat (97 + k)).toNat < 128 := by decide +kernel
theorem nu_chr : ∀ a, a < 9 → ∀ b, b < 10 → goodB [UInt8.ofNat (49 + a), UInt8.ofNat (48 + b)] = true := by decide +kernel
theorem nu_one : ∀ a, a < 9 → digB (UInt8.ofNat (49 + a)) = true ∧ (UInt8.ofNat (49 + a) ≠ 10 ∧ UInt8.ofNat (49 + a) ≠ 34 ∧ UInt8.ofNat (49 + a) ≠ 60) ∧ (UInt8.ofNat (49 + a)).toNat < 128 ∧ bytesIn [32, 9, 13] (UInt8.ofNat (49 + a)) = false ∧ UInt8.ofNat (49 + a) ≠ 35 ∧ UInt8.ofNat (49 + a) ≠ 47 := by decide +kernel
theorem nu_two : ∀ b, b < 10 → digB (UInt8.ofNat (48 + b)) = true ∧ (UInt8.ofNat (48 + b)).toNat < 128 := by decide +kernel
theorem nm_fits {d : Nat} (hd : d < 8) (i : Nat) : Wears d (nmP i) := by
  obtain ⟨h1, h2⟩ := nm_chr (i % 26) (by omega)
  refine ⟨fun S => ?_, ⟨110, _, rfl, by decide, by decide, by decide⟩, fun c hc => ?_, Nat.le_of_eq rfl⟩
  · rcases (show d = 0 ∨ d = 1 ∨ d = 2 ∨ d = 3 ∨ d = 4 ∨ d = 5 ∨ d = 6 ∨ d = 7 by omega) with rfl | rfl | rfl | rfl | rfl | rfl | rfl | rfl <;> exact next_name h1 (by decide)
  · simp [nmP] at hc
    rcases hc with rfl | rfl | rfl
    · decide
    · decide
    · simpa using h2
theorem nu_len (i : Nat) : (nuP i).2.length ≤ 3 := by show 2 ≤ 3; decide
theorem nu_fits {d : Nat} (hd : d < 8) {i : Nat} (hi : i < 100) : Wears d (nuP i) := by
  obtain ⟨a1, a2, a3, a4, a5, a6⟩ := nu_one (i % 9) (by omega)
  obtain ⟨b1, b2⟩ := nu_two (i / 10) (by omega)
  have hg := nu_chr (i % 9) (by omega) (i / 10) (by omega)
  refine ⟨fun S => ?_, ⟨_, _, rfl, a4, a5, a6⟩, fun c hc => ?_, nu_len i⟩
  · rcases (show d = 0 ∨ d = 1 ∨ d = 2 ∨ d = 3 ∨ d = 4 ∨ d = 5 ∨ d = 6 ∨ d = 7 by omega) with rfl | rfl | rfl | rfl | rfl | rfl | rfl | rfl <;> exact next_number a1 a2 b1 hg (by decide) (by decide)
  · unfold nuP at hc
    rcases List.mem_cons.1 hc with rfl | hc
    · exact a3
    · rcases List.mem_cons.1 hc with rfl | hc
      · exact b2
      · cases hc
theorem sg_fits {d : Nat} (hd : d < 8) (i : Nat) : Wears d (sgP i) := by
  unfold sgP
  rcases (show i % 5 = 0 ∨ i % 5 = 1 ∨ i % 5 = 2 ∨ i % 5 = 3 ∨ i % 5 = 4 by omega) with h | h | h | h | h
  all_goals
    rw [h]
    refine ⟨fun S => ?_, ⟨_, _, rfl, by decide, by decide, by decide⟩, by decide, by decide⟩
    rcases (show d = 0 ∨ d = 1 ∨ d = 2 ∨ d = 3 ∨ d = 4 ∨ d = 5 ∨ d = 6 ∨ d = 7 by omega) with rfl | rfl | rfl | rfl | rfl | rfl | rfl | rfl <;> rfl
def parts1 (i : Nat) : List Part := [nmP i, nuP i, sgP i]
def parts : Nat → List Part
  | 0 => []
  | n + 1 => parts n ++ parts1 n
theorem parts_length : ∀ n, (parts n).length = 3 * n
  | 0 => rfl
  | n + 1 => by unfold parts; rw [List.length_append, parts_length n]; show _ + 3 = _; omega
theorem parts_fit {d : Nat} (hd : d < 8) : ∀ n, n ≤ 100 → ∀ x ∈ parts n, Wears d x
  | 0, _, x, hx => by cases hx
  | n + 1, hn, x, hx => by
    unfold parts at hx
    rcases List.mem_append.1 hx with h | h
    · exact parts_fit hd n (by omega) x h
    · unfold parts1 at h
      rcases List.mem_cons.1 h with rfl | h
      · exact nm_fits hd n
      · rcases List.mem_cons.1 h with rfl | h
        · exact nu_fits hd (by omega)
        · rcases List.mem_cons.1 h with rfl | h
          · exact sg_fits hd n
          · cases h
theorem scan_counts {d n : Nat} (hd : d < 8) (hn : n < 100) : scanL ⟨(flat d (parts n)).toArray⟩ = .ok (toks d 0 (parts n)) := scan_flat hd (parts_fit hd n (by omega)) (by rw [parts_length]; omega)
end Go.Proofs.YtpdepdigacpfiaaDoor
