/- What the parser makes of nested texts, by their texts -/
import Derived.Test.YtljgggohjigaoaaGreatDoorSy39
namespace Go.Proofs.YtljgggohjigaoaaGreatDoor
open Go.RowKit Go.Shelf
set_option linter.unusedVariables false
set_option linter.unusedSimpArgs false

def opnD (A : ByteArray) : Nat → ByteArray
  | 0 => ⟨#[]⟩
  | k + 1 => opnD A k ++ A
def shtD (B : ByteArray) : Nat → ByteArray
  | 0 => ⟨#[]⟩
  | k + 1 => B ++ shtD B k
def repR (l : List UInt8) : Nat → List UInt8
  | 0 => []
  | k + 1 => repR l k ++ l
def repL (l : List UInt8) : Nat → List UInt8
  | 0 => []
  | k + 1 => l ++ repL l k
theorem opnD_size (A : ByteArray) : ∀ k, (opnD A k).size = k * A.size
  | 0 => by rw [Nat.zero_mul]; rfl
  | k + 1 => by unfold opnD; rw [ByteArray.size_append, opnD_size A k, Nat.succ_mul]
theorem shtD_size (B : ByteArray) : ∀ k, (shtD B k).size = k * B.size
  | 0 => by rw [Nat.zero_mul]; rfl
  | k + 1 => by unfold shtD; rw [ByteArray.size_append, shtD_size B k, Nat.succ_mul]; omega
theorem app_list (a b : List UInt8) : (⟨a.toArray⟩ ++ ⟨b.toArray⟩ : ByteArray) = ⟨(a ++ b).toArray⟩ := by
  apply ByteArray.ext
  rw [ByteArray.data_append]
  simp
theorem opnD_list (l : List UInt8) : ∀ k, opnD ⟨l.toArray⟩ k = ⟨(repR l k).toArray⟩
  | 0 => rfl
  | k + 1 => by unfold opnD repR; rw [opnD_list l k, app_list]
theorem shtD_list (l : List UInt8) : ∀ k, shtD ⟨l.toArray⟩ k = ⟨(repL l k).toArray⟩
  | 0 => rfl
  | k + 1 => by unfold shtD repL; rw [shtD_list l k, app_list]
/-- What stands ahead and behind. -/
def ahL : Nat → List UInt8
  | 0 => [40] | 1 => [91] | 2 => [102, 40] | 3 => [45] | 4 => [116, 114, 117, 101, 32, 63, 32] | _ => [123, 32, 107, 32, 61, 32]
def beL : Nat → List UInt8
  | 0 => [41] | 1 => [93] | 2 => [41] | 3 => [] | 4 => [32, 58, 32, 49] | _ => [32, 125]
def ahD (h : Nat) : ByteArray := ⟨(ahL h).toArray⟩
def beD (h : Nat) : ByteArray := ⟨(beL h).toArray⟩
theorem ahD_size (h : Nat) : (ahD h).size ≤ 7 := by
  unfold ahD ahL
  split <;> decide
theorem beD_size (h : Nat) : (beD h).size ≤ 4 := by
  unfold beD beL
  split <;> decide
def deepT (A B : ByteArray) (n : Nat) : ByteArray := (((⟨#[97, 32, 123, 10, 120, 32, 61, 32]⟩ ++ opnD A n) ++ ⟨#[49]⟩) ++ shtD B n) ++ ⟨#[10, 125]⟩
def deepL (h n : Nat) : List UInt8 := ((([97, 32, 123, 10, 120, 32, 61, 32] ++ repR (ahL h) n) ++ [49]) ++ repL (beL h) n) ++ [10, 125]
theorem deepT_list (h n : Nat) : deepT (ahD h) (beD h) n = ⟨(deepL h n).toArray⟩ := by
  apply ByteArray.ext
  have h1 : (opnD (ahD h) n).data = (repR (ahL h) n).toArray := congrArg ByteArray.data (opnD_list _ _)
  have h2 : (shtD (beD h) n).data = (repL (beL h) n).toArray := congrArg ByteArray.data (shtD_list _ _)
  unfold deepT deepL
  rw [ByteArray.data_append, ByteArray.data_append, ByteArray.data_append, ByteArray.data_append, h1, h2]
  apply Array.toList_inj.1
  simp only [Array.toList_append, List.toList_toArray]
def blkT (n : Nat) : ByteArray := opnD ⟨#[98, 32, 123, 10]⟩ n ++ shtD ⟨#[125, 10]⟩ n
def blkL (n : Nat) : List UInt8 := repR [98, 32, 123, 10] n ++ repL [125, 10] n
theorem blkT_list (n : Nat) : blkT n = ⟨(blkL n).toArray⟩ := by
  unfold blkT blkL
  rw [show (⟨#[98, 32, 123, 10]⟩ : ByteArray) = ⟨[98, 32, 123, 10].toArray⟩ from rfl, show (⟨#[125, 10]⟩ : ByteArray) = ⟨[125, 10].toArray⟩ from rfl, opnD_list, shtD_list, app_list]
def deepB (n h : Nat) : Bool := match parseF ⟨(deepL h n).toArray⟩ with
  | .ok _ => decide (n ≤ 23)
  | .error bd => decide (23 < n) && bd.1 == 7
def blkB (n : Nat) : Bool := match parseF ⟨(blkL n).toArray⟩ with
  | .ok _ => decide (n ≤ 24)
  | .error bd => decide (24 < n) && (bd.1 == 7 && bd.2 == 98)
theorem deep_res {n h : Nat} (hb : deepB n h = true) : (n ≤ 23 ∧ ∃ f, parseF (deepT (ahD h) (beD h) n) = .ok f) ∨ (23 < n ∧ ∃ p, parseF (deepT (ahD h) (beD h) n) = .error (7, p)) := by
  rw [deepT_list]
  unfold deepB at hb
  cases hp : parseF ⟨(deepL h n).toArray⟩ with
  | ok f => rw [hp] at hb; exact .inl ⟨of_decide_eq_true hb, f, rfl⟩
  | error bd =>
    rw [hp] at hb
    simp only [Bool.and_eq_true] at hb
    obtain ⟨c, p⟩ := bd
    have : c = 7 := beq_iff_eq.1 hb.2
    subst this
    exact .inr ⟨of_decide_eq_true hb.1, p, rfl⟩
theorem blk_res {n : Nat} (hb : blkB n = true) : (n ≤ 24 ∧ ∃ f, parseF (blkT n) = .ok f) ∨ (24 < n ∧ parseF (blkT n) = .error (7, 98)) := by
  rw [blkT_list]
  unfold blkB at hb
  cases hp : parseF ⟨(blkL n).toArray⟩ with
  | ok f => rw [hp] at hb; exact .inl ⟨of_decide_eq_true hb, f, rfl⟩
  | error bd =>
    rw [hp] at hb
    simp only [Bool.and_eq_true] at hb
    obtain ⟨c, p⟩ := bd
    have h1 : c = 7 := beq_iff_eq.1 hb.2.1
    have h2 : p = 98 := beq_iff_eq.1 hb.2.2
    subst h1 h2
    exact .inr ⟨of_decide_eq_true hb.1, rfl⟩
end Go.Proofs.YtljgggohjigaoaaGreatDoor
