/- What the lexer tells of the texts at its limits. -/
import Derived.Test.YtpdepdigacpfiaaDoorLAsc
import Derived.KernelRfl
namespace Go.Proofs.YtpdepdigacpfiaaDoor
open Go.RowKit
set_option linter.unusedVariables false

/-- A text of 16384 bytes. -/
def lst (f : Nat → UInt8) : List UInt8 := (List.range 16384).map f
def txt (f : Nat → UInt8) : ByteArray := ⟨(lst f).toArray⟩
theorem lst_length (f : Nat → UInt8) : (lst f).length = 16384 := by unfold lst; rw [List.length_map, List.length_range]
theorem list_back (l : List UInt8) : (⟨l.toArray⟩ : ByteArray).data.toList = l := rfl
theorem txt_list (f : Nat → UInt8) : (txt f).data.toList = lst f := list_back _
theorem txt_size (f : Nat → UInt8) : (txt f).size = 16384 := by
  have : (txt f).data.toList.length = (txt f).size := by simp
  rw [← this, txt_list, lst_length]
theorem lst_at (f : Nat → UInt8) {j : Nat} (h : j < 16384) : (lst f)[j]? = some (f j) := by
  unfold lst
  rw [List.getElem?_map, List.getElem?_range h]
  rfl
theorem txt_at {f : Nat → UInt8} {j : Nat} {c : UInt8} (h : j < 16384) (hc : f j = c) : At (txt f) j c := by
  unfold At
  rw [txt_list, lst_at f h, hc]
theorem txt_asc {f : Nat → UInt8} (h : ∀ j, j < 16384 → (f j).toNat < 128) : Asc (txt f) := by
  intro c hc
  rw [txt_list] at hc
  unfold lst at hc
  rw [List.mem_map] at hc
  obtain ⟨j, hj, rfl⟩ := hc
  exact h j (List.mem_range.1 hj)
def fA (j : Nat) : UInt8 := if j < 8192 ∧ j % 2 = 0 then 43 else 32
def fB (j : Nat) : UInt8 := if j = 16383 then 44 else fA j
def fC (n j : Nat) : UInt8 := if j = 2 * n then 32 else fB j
theorem fA_lt (j : Nat) : (fA j).toNat < 128 := by unfold fA; split <;> decide
theorem fB_lt (j : Nat) : (fB j).toNat < 128 := by
  unfold fB
  split
  · decide
  · exact fA_lt j
theorem fC_lt (n j : Nat) : (fC n j).toNat < 128 := by
  unfold fC
  split
  · decide
  · exact fB_lt j
theorem fA_plus {j : Nat} (h : j < 4096) : fA (2 * j) = 43 ∧ fA (2 * j + 1) = 32 := by
  unfold fA
  rw [if_pos ⟨by omega, by omega⟩, if_neg (by omega)]
  exact ⟨rfl, rfl⟩
theorem fA_blank {j : Nat} (h : 8192 ≤ j) : fA j = 32 := by unfold fA; rw [if_neg (by omega)]
theorem fB_low {j : Nat} (h : j < 16383) : fB j = fA j := by unfold fB; rw [if_neg (by omega)]
theorem rest_end {t : ByteArray} {a : Nat} (h : t.size ≤ a) : rest t a = [] := by unfold rest; exact List.drop_eq_nil_iff.2 (by simpa using h)
theorem betweenA_here (t : ByteArray) : betweenA t.data.toList = betweenA (rest t 0) := rfl
theorem scanA : ∃ l, scanL (txt fA) = .ok l := by
  rw [scan_ascii (txt_asc fun j _ => fA_lt j) (by rw [txt_size]; omega), betweenA_here]
  obtain ⟨acc, h1, h2⟩ := pluses (t := txt fA) 4096 0 [] (by simp) (fun j hj => ⟨txt_at (by omega) (by rw [Nat.zero_add]; exact (fA_plus hj).1), txt_at (by omega) (by rw [Nat.zero_add]; exact (fA_plus hj).2)⟩)
  rw [h2, blanks 8192 (0 + 2 * 4096) (fun j h3 h4 => txt_at (by omega) (fA_blank (by omega))), rest_end (by rw [txt_size]; omega)]
  exact ⟨acc, rfl⟩
theorem next_comma : nextL [44] = (4, .ok ([44], [])) := by rfl
theorem scanB : scanL (txt fB) = .error (3, 16383) := by
  rw [scan_ascii (txt_asc fun j _ => fB_lt j) (by rw [txt_size]; omega), betweenA_here]
  obtain ⟨acc, h1, h2⟩ := pluses (t := txt fB) 4096 0 [] (by simp) (fun j hj => ⟨txt_at (by omega) (by rw [Nat.zero_add, fB_low (by omega)]; exact (fA_plus hj).1), txt_at (by omega) (by rw [Nat.zero_add, fB_low (by omega)]; exact (fA_plus hj).2)⟩)
  have hl : At (txt fB) (0 + 2 * 4096 + 8191) 44 := txt_at (by omega) (by unfold fB; rfl)
  rw [h2, blanks 8191 (0 + 2 * 4096) (fun j h3 h4 => txt_at (by omega) (by rw [fB_low (by omega)]; exact fA_blank (by omega))), hl.rest, rest_end (by rw [txt_size]; omega), between_token (by decide) (by decide) (by decide), tokA_many (by simp) next_comma (by rw [h1]; rfl), txt_size]
  rfl
theorem scanC {n : Nat} (hn : n < 40) : ∃ l, scanL (txt (fC n)) = .ok l := by
  rw [scan_ascii (txt_asc fun j _ => fC_lt n j) (by rw [txt_size]; omega), betweenA_here]
  have hC : ∀ j, j ≠ 2 * n → j < 16383 → fC n j = fA j := fun j h1 h2 => by unfold fC; rw [if_neg h1, fB_low h2]
  obtain ⟨acc, h1, h2⟩ := pluses (t := txt (fC n)) n 0 [] (by simp; omega) (fun j hj => ⟨txt_at (by omega) (by rw [Nat.zero_add, hC _ (by omega) (by omega)]; exact (fA_plus (by omega)).1), txt_at (by omega) (by rw [Nat.zero_add, hC _ (by omega) (by omega)]; exact (fA_plus (by omega)).2)⟩)
  rw [h2, blanks 2 (0 + 2 * n) (fun j h3 h4 => txt_at (by omega) (by
    by_cases hj : j = 2 * n
    · unfold fC; rw [if_pos hj]
    · rw [hC _ hj (by omega), show j = 2 * n + 1 by omega]; exact (fA_plus (by omega)).2))]
  obtain ⟨acc2, h5, h6⟩ := pluses (t := txt (fC n)) (4095 - n) (0 + 2 * n + 2) acc (by rw [h1]; simp; omega) (fun j hj => ⟨txt_at (by omega) (by rw [hC _ (by omega) (by omega), show 0 + 2 * n + 2 + 2 * j = 2 * (n + 1 + j) by omega]; exact (fA_plus (by omega)).1), txt_at (by omega) (by rw [hC _ (by omega) (by omega), show 0 + 2 * n + 2 + 2 * j + 1 = 2 * (n + 1 + j) + 1 by omega]; exact (fA_plus (by omega)).2)⟩)
  have e : 0 + 2 * n + 2 + 2 * (4095 - n) = 8192 := by omega
  rw [h6, e]
  have hl : At (txt (fC n)) (8192 + 8191) 44 := txt_at (by omega) (by unfold fC fB; rw [if_neg (by omega)]; rfl)
  rw [blanks 8191 8192 (fun j h3 h4 => txt_at (by omega) (by rw [hC _ (by omega) (by omega)]; exact fA_blank (by omega))), hl.rest, rest_end (by rw [txt_size]; omega), between_token (by decide) (by decide) (by decide), tokA_ok (by simp) next_comma (by rw [h5, h1]; simp; omega)]
  exact ⟨_, rfl⟩
theorem scanD {t : ByteArray} (h : t.size = 16385) : scanL t = .error (3, 0) := by
  unfold scanL
  rw [if_pos (by omega)]

/-! ### braces -/
def opnB : Nat → ByteArray
  | 0 => ⟨#[36, 123]⟩
  | k + 1 => opnB k ++ ⟨#[123]⟩
def shtB : Nat → ByteArray
  | 0 => ⟨#[125]⟩
  | k + 1 => shtB k ++ ⟨#[125]⟩
theorem opn_size : ∀ k, (opnB k).size = k + 2
  | 0 => rfl
  | k + 1 => by unfold opnB; rw [ByteArray.size_append, opn_size k]; rfl
theorem sht_size : ∀ k, (shtB k).size = k + 1
  | 0 => rfl
  | k + 1 => by unfold shtB; rw [ByteArray.size_append, sht_size k]; rfl
def brB (a b : ByteArray) : ByteArray := ((⟨#[34]⟩ ++ a) ++ b) ++ ⟨#[34]⟩
def brOk (t : ByteArray) (n : Nat) : Bool := match scanL t with
  | .ok _ => decide (n ≤ 24)
  | .error (c, p) => decide (24 < n) && decide (c = 7) && decide (p = 0)
theorem br_zero : brOk (brB ⟨#[]⟩ ⟨#[]⟩) 0 = true := by kernel_rfl
theorem br_all : ((List.range 39).all fun k => brOk (brB (opnB k) (shtB k)) (k + 1)) = true := by kernel_rfl
theorem brOk_ok {t : ByteArray} {n : Nat} (h : brOk t n = true) (hn : n ≤ 24) : ∃ l, scanL t = .ok l := by
  unfold brOk at h
  split at h
  · exact ⟨_, by assumption⟩
  · simp at h; omega
theorem brOk_err {t : ByteArray} {n : Nat} (h : brOk t n = true) (hn : 24 < n) : scanL t = .error (7, 0) := by
  unfold brOk at h
  split at h
  · simp at h; omega
  · rename_i hs
    simp at h
    rw [hs, h.1.2, h.2]

/-! ### names, numbers -/
def nm32 : ByteArray := ⟨#[97, 98, 99, 100, 101, 102, 103, 104, 105, 106, 107, 108, 109, 110, 111, 112, 113, 114, 115, 116, 117, 118, 119, 120, 121, 122, 97, 98, 99, 100, 101, 102]⟩
def ninesB : Nat → ByteArray
  | 0 => ⟨#[]⟩
  | k + 1 => ninesB k ++ ⟨#[57]⟩
theorem nines_size : ∀ k, (ninesB k).size = k
  | 0 => rfl
  | k + 1 => by unfold ninesB; rw [ByteArray.size_append, nines_size k]; rfl
def isOk : Except (Int × Nat) (List Tk) → Bool
  | .ok _ => true
  | .error _ => false
theorem isOk_ok {r : Except (Int × Nat) (List Tk)} (h : isOk r = true) : ∃ l, r = .ok l := by
  cases r with
  | ok l => exact ⟨l, rfl⟩
  | error _ => cases h
theorem scanE : ∃ l, scanL ((nm32 ++ ⟨#[32]⟩) ++ ninesB 100) = .ok l := isOk_ok (by kernel_rfl)
theorem scanF : scanL (nm32 ++ ⟨#[103]⟩) = .error (3, 0) := by kernel_rfl
theorem scanG : scanL ((⟨#[49, 32]⟩ ++ ninesB 100) ++ ⟨#[57]⟩) = .error (3, 2) := by kernel_rfl
end Go.Proofs.YtpdepdigacpfiaaDoor
