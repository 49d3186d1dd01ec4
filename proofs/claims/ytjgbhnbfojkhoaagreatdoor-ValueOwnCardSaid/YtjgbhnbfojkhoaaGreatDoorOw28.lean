/- value.Good · purlinref02.Good; that it says what value.Good says · What a good tree is · Keys dropped and put, as lists -/
import Derived.Test.YtjgbhnbfojkhoaaGreatDoorOw11
import Derived.Test.YtjgbhnbfojkhoaaGreatDoorOw17
import Derived.Test.YtjgbhnbfojkhoaaGreatDoorOw25
import Derived.Test.YtjgbhnbfojkhoaaGreatDoorOw27
namespace Go.Proofs.YtjgbhnbfojkhoaaGreatDoor
open Go.RowKit
set_option linter.unusedVariables false

instance (d r : Nat) (T : VT) : Decidable (within d r T) := by unfold within; infer_instance

set_option maxRecDepth 100000 in
set_option maxHeartbeats 1000000 in
theorem vGood_any {B : Nat} {w : World} {v : Value} {T : VT} (h : Is B w v T) (W : World) (hb : Below B w W) (hBW : B ≤ W.heap.size) : Calls Tryz.prog 58 #[v] W fun e w' => e = .returned (.bool (decide (within 24 1999 T))) ∧ Below W.heap.size W w' := by
  obtain ⟨k, b, t, ad, n, cap, adk, nk, capk, rfl⟩ := h.shape
  have hb0 := below_new W (.cells #[.int .i64 k, .bool b, .string t, .slice ad n cap, .slice adk nk capk] 26)
  have hb1 := hb0.alloc hb0.size (.cells #[.int .i64 1999] 3)
  have hR := Blk.new (W.alloc (.cells #[.int .i64 k, .bool b, .string t, .slice ad n cap, .slice adk nk capk] 26)) #[.int .i64 1999] 3
  rw [show (W.alloc (.cells #[.int .i64 k, .bool b, .string t, .slice ad n cap, .slice adk nk capk] 26)).heap.size = W.heap.size + 1 by simp] at hR
  have HW := Lib.hid (within_any h 24 1999 (W.heap.size + 1) _ (by omega) (by omega) (hb.trans (hb1.mono hBW)) (Nat.le_trans hBW hb1.size) (by omega) hR)
  have HB := Lib.hid hb1
  clear h hb0 hb1 hR
  obtain ⟨q, hq⟩ : ∃ q, decide (within 24 1999 T) = q := ⟨_, rfl⟩
  rw [hq]
  have HQ := Lib.hid hq
  clear hq
  go_enter Tryz.func58, Tryz.ntmps58
  go_wp2_with (go_at_call 88; refine HW.out.mono ?_; rintro e w3 ⟨b3, r3, rfl, hi3, hr3, hk3, ha3⟩)
  go_ret
  refine ⟨?_, ?_⟩
  · rw [← HQ.out]
    cases b3
    · rw [decide_eq_false (fun h => by have := hi3.2 h; cases this)]; rfl
    · rw [decide_eq_true (hi3.1 rfl)]; rfl
  · have := HB.out.trans ((ha3.below (B := W.heap.size) HB.out.size (by omega)))
    exact this
end Go.Proofs.YtjgbhnbfojkhoaaGreatDoor
namespace Go.Proofs.YtjgbhnbfojkhoaaGreatDoor
open Go.RowKit
set_option linter.unusedVariables false

/-- A good tree, as the document has it. -/
def goodT (T : VT) : Bool := decide (sizeT T ≤ 2000) && deepT 24 T && plainT T
theorem goodT_long {T : VT} {z : Int} (h : SizeIs T z) (hz : ¬ z ≤ 2000) : goodT T = false := by
  unfold goodT
  cases hd : deepT 24 T
  · simp
  · obtain ⟨-, -, h3, -⟩ := h 24 (by omega) hd
    have : ¬ sizeT T ≤ 2000 := fun hs => hz (by have := h3 hs; omega)
    simp [this]
theorem goodT_deep {T : VT} (hd : deepT 24 T = false) : goodT T = false := by unfold goodT; rw [hd]; simp
theorem goodT_plain {T : VT} {z : Int} {p : Bool} (h : SizeIs T z) (hz : z ≤ 2000) (hd : deepT 24 T = true) (hp : plainT T = p) : goodT T = p := by
  obtain ⟨-, -, -, h4⟩ := h 24 (by omega) hd
  have : sizeT T ≤ 2000 := by
    rcases Nat.lt_or_ge 2000 (sizeT T) with hs | hs
    · have := h4 hs; omega
    · exact hs
  unfold goodT
  rw [hd, hp]
  simp [this]
theorem goodT_within (T : VT) : goodT T = decide (within 24 1999 T) := by
  rw [Bool.eq_iff_iff, decide_eq_true_iff]
  unfold goodT within
  rw [Bool.and_eq_true, Bool.and_eq_true, decide_eq_true_iff]
  constructor
  · rintro ⟨⟨a, b⟩, c⟩; exact ⟨b, by omega, c⟩
  · rintro ⟨a, b, c⟩; exact ⟨⟨by omega, a⟩, c⟩

set_option maxRecDepth 100000 in
set_option maxHeartbeats 2000000 in
theorem rGood_any {B : Nat} {w : World} {v : Value} {T : VT} (h : Is B w v T) (W : World) (hb : Below B w W) (hBW : B ≤ W.heap.size) : Calls Tryz.prog 12 #[v] W fun e w' => e = .returned (.bool (goodT T)) ∧ Below W.heap.size W w' := by
  have HS := Lib.hid (fun W' (hb' : Below B w W') (hB' : B ≤ W'.heap.size) => size_any h W' hb' hB')
  have HD := Lib.hid (fun W' (hb' : Below B w W') (hB' : B ≤ W'.heap.size) => deep_any h 24 W' (by omega) hb' hB')
  have HP := Lib.hid (fun W' (hb' : Below B w W') (hB' : B ≤ W'.heap.size) => plain_any h W' hb' hB')
  obtain ⟨k, b, t, ad, n, cap, adk, nk, capk, rfl⟩ := h.shape
  obtain ⟨g, hg⟩ : ∃ g, goodT T = g := ⟨_, rfl⟩
  have HG := Lib.hid hg
  rw [hg]
  clear hg h
  have hb0 := below_new W (.cells #[.int .i64 k, .bool b, .string t, .slice ad n cap, .slice adk nk capk] 26)
  have hk0 := Blk.new W #[.int .i64 k, .bool b, .string t, .slice ad n cap, .slice adk nk capk] 26
  have HB0 := Lib.hid hb0
  have HK0 := Lib.hid hk0
  have HS1 := Lib.hid (HS.out _ (hb.trans (hb0.mono hBW)) (Nat.le_trans hBW hb0.size))
  clear hb0 hk0 HS
  have HBW := Lib.hid hBW
  have HBb := Lib.hid hb
  clear hBW hb
  go_enter Tryz.func12, Tryz.ntmps12
  go_wp2_with fail
  go_at_call 38; refine HS1.out.mono ?_; rintro e w2 ⟨⟨z, rfl, hz⟩, hb2⟩
  have HZ := Lib.hid hz
  have HB2 := Lib.hid (HB0.out.trans (hb2.mono HB0.out.size))
  have HK2 := Lib.hid (HK0.out.below hb2)
  have HD2 := Lib.hid (HD.out w2 (HBb.out.trans (HB2.out.mono HBW.out)) (Nat.le_trans HBW.out HB2.out.size))
  have hw2 : W.heap.size < w2.heap.size := HK2.out.lt
  have q0 := HK2.out.cell 0
  have q1 := HK2.out.cell 1
  have q2 := HK2.out.cell 2
  have q3 := HK2.out.cell 3
  have q4 := HK2.out.cell 4
  clear hz hb2
  by_cases hz2 : z ≤ 2000
  · obtain ⟨d, hd⟩ : ∃ d, deepT 24 T = d := ⟨_, rfl⟩
    rw [hd] at HD2
    have HDd := Lib.hid hd
    clear hd
    cases d
    · have HF : Hid (g = false) := Lib.hid (HG.out.symm.trans (goodT_deep HDd.out))
      go_wp2_with (go_at_call 39; refine HD2.out.mono ?_; rintro e w3 ⟨rfl, hb3⟩)
      go_ret
      exact ⟨by rw [HF.out]; rfl, HB2.out.trans (hb3.mono HB2.out.size)⟩
    · go_wp2_with fail
      go_at_call 39; refine HD2.out.mono ?_; rintro e w3 ⟨rfl, hb3⟩
      clear q0 q1 q2 q3 q4 hw2
      have HB3 := Lib.hid (HB2.out.trans (hb3.mono HB2.out.size))
      have HK3 := Lib.hid (HK2.out.below hb3)
      have HP3 := Lib.hid (HP.out w3 (HBb.out.trans (HB3.out.mono HBW.out)) (Nat.le_trans HBW.out HB3.out.size))
      have hw3 : W.heap.size < w3.heap.size := HK3.out.lt
      have q0 := HK3.out.cell 0
      have q1 := HK3.out.cell 1
      have q2 := HK3.out.cell 2
      have q3 := HK3.out.cell 3
      have q4 := HK3.out.cell 4
      clear hb3
      obtain ⟨p, hp⟩ : ∃ p, plainT T = p := ⟨_, rfl⟩
      rw [hp] at HP3
      have HF : Hid (g = p) := Lib.hid (HG.out.symm.trans (goodT_plain HZ.out hz2 HDd.out hp))
      clear hp
      go_wp2_with (go_at_call 40; refine HP3.out.mono ?_; rintro e w4 ⟨rfl, hb4⟩)
      go_ret
      exact ⟨by rw [HF.out]; rfl, HB3.out.trans (hb4.mono HB3.out.size)⟩
  · have HF : Hid (g = false) := Lib.hid (HG.out.symm.trans (goodT_long HZ.out hz2))
    have hz3 : decide (z ≤ 2000) = false := decide_eq_false hz2
    go_wp2_with fail
    go_ret
    exact ⟨by rw [HF.out]; rfl, HB2.out⟩
end Go.Proofs.YtjgbhnbfojkhoaaGreatDoor
namespace Go.Proofs.YtjgbhnbfojkhoaaGreatDoor
open Go.RowKit
set_option linter.unusedVariables false

/-- A good tree is small. -/
theorem small_good : ∀ (n : Nat) (T : VT), deepT n T = true → plainT T = true → sizeT T ≤ 2000 → smallT T
  | 0, .node k b t its ks, h, _, _ => by unfold deepT at h; cases h
  | n + 1, .node k b t its ks, hd, hp, hs => by
    have e : sizeT (.node k b t its ks) = 1 + sizeL its := by unfold sizeT; rfl
    rw [e] at hs
    have hge := sizeL_ge its
    unfold deepT at hd
    unfold plainT at hp
    obtain ⟨hal, hpl⟩ := Bool.and_eq_true_iff.1 hp
    rw [smallT_node]
    refine ⟨by omega, ?_, fun x hx => ?_⟩
    · unfold aloneT at hal
      have hal2 := (Bool.and_eq_true_iff.1 hal).2
      split at hal2
      · simp at hal2; rw [hal2.2]; simp
      · split at hal2
        · simp at hal2; rw [hal2.2]; simp
        · split at hal2
          · simp at hal2; rw [hal2.2]; simp
          · split at hal2
            · simp at hal2; rw [hal2.2]; simp
            · split at hal2
              · simp at hal2; omega
              · cases hal2
    · obtain ⟨j, hj, rfl⟩ := List.mem_iff_getElem.1 hx
      have h1 := sizeL_split its (j + 1)
      have h2 := sizeL_take hj
      exact small_good n _ (deepL_at hj hd) (plainL_at hj hpl) (by omega)
theorem goodT_parts {T : VT} (h : goodT T = true) : sizeT T ≤ 2000 ∧ deepT 24 T = true ∧ plainT T = true := by
  unfold goodT at h
  simp only [Bool.and_eq_true, decide_eq_true_eq] at h
  exact ⟨h.1.1, h.1.2, h.2⟩
theorem goodT_small {T : VT} (h : goodT T = true) : smallT T := by
  obtain ⟨a, b, c⟩ := goodT_parts h
  exact small_good 24 T b c a

end Go.Proofs.YtjgbhnbfojkhoaaGreatDoor
namespace Go.Proofs.YtjgbhnbfojkhoaaGreatDoor
open Go.RowKit
set_option linter.unusedVariables false

def dropK (key : ByteArray) : List ByteArray → List ByteArray
  | [] => []
  | a :: l => if (a.toList == key.toList) = true then dropK key l else a :: dropK key l
def dropI {α : Type} (key : ByteArray) : List ByteArray → List α → List α
  | a :: l, y :: m => if (a.toList == key.toList) = true then dropI key l m else y :: dropI key l m
  | _, _ => []
def insK (key : ByteArray) : List ByteArray → List ByteArray
  | [] => [key]
  | a :: l => if bLt key a = true then key :: a :: l else a :: insK key l
def insI {α : Type} (key : ByteArray) (x : α) : List ByteArray → List α → List α
  | a :: l, y :: m => if bLt key a = true then x :: y :: m else y :: insI key x l m
  | _, _ => [x]
theorem dropK_step {key : ByteArray} {ks : List ByteArray} {j : Nat} (h : j < ks.length) : dropK key (ks.drop j) = if (ks[j].toList == key.toList) = true then dropK key (ks.drop (j + 1)) else ks[j] :: dropK key (ks.drop (j + 1)) := by
  rw [List.drop_eq_getElem_cons h]
  conv => lhs; unfold dropK
theorem dropI_step {α : Type} {key : ByteArray} {ks : List ByteArray} {ys : List α} {j : Nat} (h : j < ks.length) (h' : j < ys.length) : dropI key (ks.drop j) (ys.drop j) = if (ks[j].toList == key.toList) = true then dropI key (ks.drop (j + 1)) (ys.drop (j + 1)) else ys[j] :: dropI key (ks.drop (j + 1)) (ys.drop (j + 1)) := by
  rw [List.drop_eq_getElem_cons h, List.drop_eq_getElem_cons h']
  conv => lhs; unfold dropI
theorem insK_step {key : ByteArray} {ks : List ByteArray} {j : Nat} (h : j < ks.length) : insK key (ks.drop j) = if bLt key ks[j] = true then key :: ks.drop j else ks[j] :: insK key (ks.drop (j + 1)) := by
  conv => lhs; rw [List.drop_eq_getElem_cons h]; unfold insK
  rw [← List.drop_eq_getElem_cons h]
theorem insI_step {α : Type} {key : ByteArray} {x : α} {ks : List ByteArray} {ys : List α} {j : Nat} (h : j < ks.length) (h' : j < ys.length) : insI key x (ks.drop j) (ys.drop j) = if bLt key ks[j] = true then x :: ys.drop j else ys[j] :: insI key x (ks.drop (j + 1)) (ys.drop (j + 1)) := by
  conv => lhs; rw [List.drop_eq_getElem_cons h, List.drop_eq_getElem_cons h']; unfold insI
  rw [← List.drop_eq_getElem_cons h']
theorem dropK_le (key : ByteArray) : ∀ ks : List ByteArray, (dropK key ks).length ≤ ks.length
  | [] => by simp [dropK]
  | a :: l => by have := dropK_le key l; unfold dropK; split <;> simp <;> omega
theorem dropI_length {α : Type} (key : ByteArray) : ∀ (ks : List ByteArray) (ys : List α), ks.length = ys.length → (dropI key ks ys).length = (dropK key ks).length
  | [], [], _ => by simp [dropI, dropK]
  | [], _ :: _, h => by simp at h
  | _ :: _, [], h => by simp at h
  | a :: l, y :: m, h => by
    have := dropI_length key l m (by simpa using h)
    unfold dropI dropK
    split <;> simp [this]
theorem insK_length (key : ByteArray) : ∀ ks : List ByteArray, (insK key ks).length = ks.length + 1
  | [] => by simp [insK]
  | a :: l => by have := insK_length key l; unfold insK; split <;> simp [this]
theorem insI_length {α : Type} (key : ByteArray) (x : α) : ∀ (ks : List ByteArray) (ys : List α), ks.length = ys.length → (insI key x ks ys).length = (insK key ks).length
  | [], [], _ => by simp [insI, insK]
  | [], _ :: _, h => by simp at h
  | _ :: _, [], h => by simp at h
  | a :: l, y :: m, h => by
    have h' : l.length = m.length := by simpa using h
    have := insI_length key x l m h'
    unfold insI insK
    split <;> simp [this, h']
theorem dropI_map {α β : Type} (f : α → β) (key : ByteArray) : ∀ (ks : List ByteArray) (ys : List α), (dropI key ks ys).map f = dropI key ks (ys.map f)
  | [], _ => by simp [dropI]
  | _ :: _, [] => by simp [dropI]
  | a :: l, y :: m => by
    have := dropI_map f key l m
    simp only [List.map_cons]
    unfold dropI
    split <;> simp [this]
theorem insI_map {α β : Type} (f : α → β) (key : ByteArray) (x : α) : ∀ (ks : List ByteArray) (ys : List α), (insI key x ks ys).map f = insI key (f x) ks (ys.map f)
  | [], _ => by simp [insI]
  | _ :: _, [] => by simp [insI]
  | a :: l, y :: m => by
    have := insI_map f key x l m
    simp only [List.map_cons]
    unfold insI
    split <;> simp [this]
theorem dropI_sub {α : Type} (key : ByteArray) : ∀ (ks : List ByteArray) (ys : List α) (e : α), e ∈ dropI key ks ys → e ∈ ys
  | [], _, _, h => by simp [dropI] at h
  | _ :: _, [], _, h => by simp [dropI] at h
  | a :: l, y :: m, e, h => by
    unfold dropI at h
    split at h
    · exact List.mem_cons_of_mem _ (dropI_sub key l m e h)
    · rcases List.mem_cons.1 h with rfl | h
      · exact List.mem_cons_self
      · exact List.mem_cons_of_mem _ (dropI_sub key l m e h)
theorem insI_sub {α : Type} (key : ByteArray) (x : α) : ∀ (ks : List ByteArray) (ys : List α) (e : α), e ∈ insI key x ks ys → e = x ∨ e ∈ ys
  | [], _, _, h => by simp [insI] at h; exact .inl h
  | _ :: _, [], _, h => by simp [insI] at h; exact .inl h
  | a :: l, y :: m, e, h => by
    unfold insI at h
    split at h
    · exact List.mem_cons.1 h
    · rcases List.mem_cons.1 h with rfl | h
      · exact .inr List.mem_cons_self
      · rcases insI_sub key x l m e h with h | h
        · exact .inl h
        · exact .inr (List.mem_cons_of_mem _ h)
end Go.Proofs.YtjgbhnbfojkhoaaGreatDoor
