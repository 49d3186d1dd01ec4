/- Keys dropped and put, as lists -/
import Derived.Test.YtjgbhnbfojkhoaaDoorMk16
namespace Go.Proofs.YtjgbhnbfojkhoaaDoor
open Go.RowKit
set_option linter.unusedVariables false

def dropK (key : ByteArray) : List ByteArray → List ByteArray
  | [] => []
  | a :: l => if (a.toList == key.toList) = true then dropK key l else a :: dropK key l
def dropI {α : Type} (key : ByteArray) : List ByteArray → List α → List α
  | a :: l, y :: m => if (a.toList == key.toList) = true then dropI key l m else y :: dropI key l m
  | _, _ => []
def insK (key : ByteArray) : List ByteArray → List ByteArray
  | [] => [key]
  | a :: l => if bLt key a = true then key :: a :: l else a :: insK key l
def insI {α : Type} (key : ByteArray) (x : α) : List ByteArray → List α → List α
  | a :: l, y :: m => if bLt key a = true then x :: y :: m else y :: insI key x l m
  | _, _ => [x]
theorem dropK_step {key : ByteArray} {ks : List ByteArray} {j : Nat} (h : j < ks.length) : dropK key (ks.drop j) = if (ks[j].toList == key.toList) = true then dropK key (ks.drop (j + 1)) else ks[j] :: dropK key (ks.drop (j + 1)) := by
  rw [List.drop_eq_getElem_cons h]
  conv => lhs; unfold dropK
theorem dropI_step {α : Type} {key : ByteArray} {ks : List ByteArray} {ys : List α} {j : Nat} (h : j < ks.length) (h' : j < ys.length) : dropI key (ks.drop j) (ys.drop j) = if (ks[j].toList == key.toList) = true then dropI key (ks.drop (j + 1)) (ys.drop (j + 1)) else ys[j] :: dropI key (ks.drop (j + 1)) (ys.drop (j + 1)) := by
  rw [List.drop_eq_getElem_cons h, List.drop_eq_getElem_cons h']
  conv => lhs; unfold dropI
theorem insK_step {key : ByteArray} {ks : List ByteArray} {j : Nat} (h : j < ks.length) : insK key (ks.drop j) = if bLt key ks[j] = true then key :: ks.drop j else ks[j] :: insK key (ks.drop (j + 1)) := by
  conv => lhs; rw [List.drop_eq_getElem_cons h]; unfold insK
  rw [← List.drop_eq_getElem_cons h]
theorem insI_step {α : Type} {key : ByteArray} {x : α} {ks : List ByteArray} {ys : List α} {j : Nat} (h : j < ks.length) (h' : j < ys.length) : insI key x (ks.drop j) (ys.drop j) = if bLt key ks[j] = true then x :: ys.drop j else ys[j] :: insI key x (ks.drop (j + 1)) (ys.drop (j + 1)) := by
  conv => lhs; rw [List.drop_eq_getElem_cons h, List.drop_eq_getElem_cons h']; unfold insI
  rw [← List.drop_eq_getElem_cons h']
theorem dropK_le (key : ByteArray) : ∀ ks : List ByteArray, (dropK key ks).length ≤ ks.length
  | [] => by simp [dropK]
  | a :: l => by have := dropK_le key l; unfold dropK; split <;> simp <;> omega
theorem dropI_length {α : Type} (key : ByteArray) : ∀ (ks : List ByteArray) (ys : List α), ks.length = ys.length → (dropI key ks ys).length = (dropK key ks).length
  | [], [], _ => by simp [dropI, dropK]
  | [], _ :: _, h => by simp at h
  | _ :: _, [], h => by simp at h
  | a :: l, y :: m, h => by
    have := dropI_length key l m (by simpa using h)
    unfold dropI dropK
    split <;> simp [this]
theorem insK_length (key : ByteArray) : ∀ ks : List ByteArray, (insK key ks).length = ks.length + 1
  | [] => by simp [insK]
  | a :: l => by have := insK_length key l; unfold insK; split <;> simp [this]
theorem insI_length {α : Type} (key : ByteArray) (x : α) : ∀ (ks : List ByteArray) (ys : List α), ks.length = ys.length → (insI key x ks ys).length = (insK key ks).length
  | [], [], _ => by simp [insI, insK]
  | [], _ :: _, h => by simp at h
  | _ :: _, [], h => by simp at h
  | a :: l, y :: m, h => by
    have h' : l.length = m.length := by simpa using h
    have := insI_length key x l m h'
    unfold insI insK
    split <;> simp [this, h']
theorem dropI_map {α β : Type} (f : α → β) (key : ByteArray) : ∀ (ks : List ByteArray) (ys : List α), (dropI key ks ys).map f = dropI key ks (ys.map f)
  | [], _ => by simp [dropI]
  | _ :: _, [] => by simp [dropI]
  | a :: l, y :: m => by
    have := dropI_map f key l m
    simp only [List.map_cons]
    unfold dropI
    split <;> simp [this]
theorem insI_map {α β : Type} (f : α → β) (key : ByteArray) (x : α) : ∀ (ks : List ByteArray) (ys : List α), (insI key x ks ys).map f = insI key (f x) ks (ys.map f)
  | [], _ => by simp [insI]
  | _ :: _, [] => by simp [insI]
  | a :: l, y :: m => by
    have := insI_map f key x l m
    simp only [List.map_cons]
    unfold insI
    split <;> simp [this]
theorem dropI_sub {α : Type} (key : ByteArray) : ∀ (ks : List ByteArray) (ys : List α) (e : α), e ∈ dropI key ks ys → e ∈ ys
  | [], _, _, h => by simp [dropI] at h
  | _ :: _, [], _, h => by simp [dropI] at h
  | a :: l, y :: m, e, h => by
    unfold dropI at h
    split at h
    · exact List.mem_cons_of_mem _ (dropI_sub key l m e h)
    · rcases List.mem_cons.1 h with rfl | h
      · exact List.mem_cons_self
      · exact List.mem_cons_of_mem _ (dropI_sub key l m e h)
theorem insI_sub {α : Type} (key : ByteArray) (x : α) : ∀ (ks : List ByteArray) (ys : List α) (e : α), e ∈ insI key x ks ys → e = x ∨ e ∈ ys
  | [], _, _, h => by simp [insI] at h; exact .inl h
  | _ :: _, [], _, h => by simp [insI] at h; exact .inl h
  | a :: l, y :: m, e, h => by
    unfold insI at h
    split at h
    · exact List.mem_cons.1 h
    · rcases List.mem_cons.1 h with rfl | h
      · exact .inr List.mem_cons_self
      · rcases insI_sub key x l m e h with h | h
        · exact .inl h
        · exact .inr (List.mem_cons_of_mem _ h)
end Go.Proofs.YtjgbhnbfojkhoaaDoor
