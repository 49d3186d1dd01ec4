/- value.goodAlone · What a good tree's texts may be, and how long its JSON · value.goodAlone of a tree -/
import Derived.Deep.QuietTactic
import Derived.BigQuiet
import Derived.Test.YtnmfoedfllmclaaGreatDoorJr03
import Derived.Test.YtnmfoedfllmclaaGreatDoorJr09
import Derived.Test.YtnmfoedfllmclaaGreatDoorJr18
namespace Go.Proofs.YtnmfoedfllmclaaGreatDoor
open Go.RowKit
set_option linter.unusedVariables false

/-- Has a value just what its kind needs: tb: no text; good: the text is a number; short: it isn't too long; ib, kb: no items, no keys; eqn: as many; kok: the keys are as they should be. -/
def aloneB (k : Int) (b tb good short ib kb eqn kok : Bool) : Bool := (!b || k == 2) && (if k = 0 ∨ k = 1 ∨ k = 2 then tb && ib && kb else if k = 3 then good && ib && kb else if k = 4 then short && ib && kb else if k = 5 then tb && kb else if k = 6 then tb && eqn && kok else false)
theorem aloneT_B (k : Int) (b : Bool) (t : ByteArray) (its : List VT) (ks : List ByteArray) : aloneT (.node k b t its ks) = aloneB k b (t.toList == []) (goodB t.data.toList) (decide (t.size ≤ 16384)) ((its.length : Int) == 0) ((ks.length : Int) == 0) ((ks.length : Int) == (its.length : Int)) (keysOk ks) := by
  have e1 : ((its.length : Int) == 0) = its.isEmpty := by cases its <;> simp <;> omega
  have e2 : ((ks.length : Int) == 0) = ks.isEmpty := by cases ks <;> simp <;> omega
  have e3 : ((ks.length : Int) == (its.length : Int)) = decide (ks.length = its.length) := by rw [Bool.eq_iff_iff, beq_iff_eq, decide_eq_true_iff]; omega
  rw [e1, e2, e3]
  rfl

theorem below_draws {B : Nat} {a c : World} (h : Below B a c) (n : Nat) : Below B a (c.drewN n) := ⟨h.os, h.tape, h.output, h.size, h.block⟩
section
variable {B : Nat} {w : World} {t : ByteArray} {ad adk : Option Addr} {n cap nk capk : Nat} {tb good ib kb eqn : Bool}
set_option maxRecDepth 100000 in
set_option maxHeartbeats 2000000 in
theorem alone_0_false (ht : (t.toList == []) = tb) (hi : ((n : Int) == 0) = ib) (hk : ((nk : Int) == 0) = kb) : Calls Tryz.prog 52 #[.agg #[.int .i64 0, .bool false, .string t, .slice ad n cap, .slice adk nk capk]] w fun e w' => e = .returned (.bool (tb && ib && kb)) ∧ Below w.heap.size w w' := by
  cases tb
  · have HB := Lib.hid (below_new w (.cells #[.int .i64 0, .bool false, .string t, .slice ad n cap, .slice adk nk capk] 26))
    go_enter Tryz.func52, Tryz.ntmps52
    go_wp2_with fail
    go_quiet (fail)
    go_wp2
    go_ret
    exact ⟨rfl, below_draws HB.out _⟩
  · cases ib
    · have HB := Lib.hid (below_new w (.cells #[.int .i64 0, .bool false, .string t, .slice ad n cap, .slice adk nk capk] 26))
      go_enter Tryz.func52, Tryz.ntmps52
      go_wp2_with fail
      go_quiet (fail)
      go_wp2
      go_ret
      exact ⟨rfl, below_draws HB.out _⟩
    · have HB := Lib.hid (below_new w (.cells #[.int .i64 0, .bool false, .string t, .slice ad n cap, .slice adk nk capk] 26))
      go_enter Tryz.func52, Tryz.ntmps52
      go_wp2_with fail
      go_quiet (fail)
      go_wp2
      go_ret
      exact ⟨rfl, below_draws HB.out _⟩
set_option maxRecDepth 100000 in
set_option maxHeartbeats 2000000 in
theorem alone_1_false (ht : (t.toList == []) = tb) (hi : ((n : Int) == 0) = ib) (hk : ((nk : Int) == 0) = kb) : Calls Tryz.prog 52 #[.agg #[.int .i64 1, .bool false, .string t, .slice ad n cap, .slice adk nk capk]] w fun e w' => e = .returned (.bool (tb && ib && kb)) ∧ Below w.heap.size w w' := by
  cases tb
  · have HB := Lib.hid (below_new w (.cells #[.int .i64 1, .bool false, .string t, .slice ad n cap, .slice adk nk capk] 26))
    go_enter Tryz.func52, Tryz.ntmps52
    go_wp2_with fail
    go_quiet (fail)
    go_wp2
    go_ret
    exact ⟨rfl, below_draws HB.out _⟩
  · cases ib
    · have HB := Lib.hid (below_new w (.cells #[.int .i64 1, .bool false, .string t, .slice ad n cap, .slice adk nk capk] 26))
      go_enter Tryz.func52, Tryz.ntmps52
      go_wp2_with fail
      go_quiet (fail)
      go_wp2
      go_ret
      exact ⟨rfl, below_draws HB.out _⟩
    · have HB := Lib.hid (below_new w (.cells #[.int .i64 1, .bool false, .string t, .slice ad n cap, .slice adk nk capk] 26))
      go_enter Tryz.func52, Tryz.ntmps52
      go_wp2_with fail
      go_quiet (fail)
      go_wp2
      go_ret
      exact ⟨rfl, below_draws HB.out _⟩
set_option maxRecDepth 100000 in
set_option maxHeartbeats 2000000 in
theorem alone_2_false (ht : (t.toList == []) = tb) (hi : ((n : Int) == 0) = ib) (hk : ((nk : Int) == 0) = kb) : Calls Tryz.prog 52 #[.agg #[.int .i64 2, .bool false, .string t, .slice ad n cap, .slice adk nk capk]] w fun e w' => e = .returned (.bool (tb && ib && kb)) ∧ Below w.heap.size w w' := by
  cases tb
  · have HB := Lib.hid (below_new w (.cells #[.int .i64 2, .bool false, .string t, .slice ad n cap, .slice adk nk capk] 26))
    go_enter Tryz.func52, Tryz.ntmps52
    go_wp2_with fail
    go_quiet (fail)
    go_wp2
    go_ret
    exact ⟨rfl, below_draws HB.out _⟩
  · cases ib
    · have HB := Lib.hid (below_new w (.cells #[.int .i64 2, .bool false, .string t, .slice ad n cap, .slice adk nk capk] 26))
      go_enter Tryz.func52, Tryz.ntmps52
      go_wp2_with fail
      go_quiet (fail)
      go_wp2
      go_ret
      exact ⟨rfl, below_draws HB.out _⟩
    · have HB := Lib.hid (below_new w (.cells #[.int .i64 2, .bool false, .string t, .slice ad n cap, .slice adk nk capk] 26))
      go_enter Tryz.func52, Tryz.ntmps52
      go_wp2_with fail
      go_quiet (fail)
      go_wp2
      go_ret
      exact ⟨rfl, below_draws HB.out _⟩
set_option maxRecDepth 100000 in
set_option maxHeartbeats 2000000 in
theorem alone_2_true (ht : (t.toList == []) = tb) (hi : ((n : Int) == 0) = ib) (hk : ((nk : Int) == 0) = kb) : Calls Tryz.prog 52 #[.agg #[.int .i64 2, .bool true, .string t, .slice ad n cap, .slice adk nk capk]] w fun e w' => e = .returned (.bool (tb && ib && kb)) ∧ Below w.heap.size w w' := by
  cases tb
  · have HB := Lib.hid (below_new w (.cells #[.int .i64 2, .bool true, .string t, .slice ad n cap, .slice adk nk capk] 26))
    go_enter Tryz.func52, Tryz.ntmps52
    go_wp2_with fail
    go_quiet (fail)
    go_wp2
    go_ret
    exact ⟨rfl, below_draws HB.out _⟩
  · cases ib
    · have HB := Lib.hid (below_new w (.cells #[.int .i64 2, .bool true, .string t, .slice ad n cap, .slice adk nk capk] 26))
      go_enter Tryz.func52, Tryz.ntmps52
      go_wp2_with fail
      go_quiet (fail)
      go_wp2
      go_ret
      exact ⟨rfl, below_draws HB.out _⟩
    · have HB := Lib.hid (below_new w (.cells #[.int .i64 2, .bool true, .string t, .slice ad n cap, .slice adk nk capk] 26))
      go_enter Tryz.func52, Tryz.ntmps52
      go_wp2_with fail
      go_quiet (fail)
      go_wp2
      go_ret
      exact ⟨rfl, below_draws HB.out _⟩
set_option maxRecDepth 100000 in
set_option maxHeartbeats 2000000 in
theorem alone_3 (ht : (t.toList == []) = tb) (hi : ((n : Int) == 0) = ib) (hk : ((nk : Int) == 0) = kb) (hg : ∀ W, Calls Tryz.prog 69 #[.string t] W fun e w' => e = .returned (.bool good) ∧ W = w') : Calls Tryz.prog 52 #[.agg #[.int .i64 3, .bool false, .string t, .slice ad n cap, .slice adk nk capk]] w fun e w' => e = .returned (.bool (good && ib && kb)) ∧ Below w.heap.size w w' := by
  cases good
  · have HG := Lib.hid hg
    clear hg
    have HB := Lib.hid (below_new w (.cells #[.int .i64 3, .bool false, .string t, .slice ad n cap, .slice adk nk capk] 26))
    go_enter Tryz.func52, Tryz.ntmps52
    go_wp2_with fail
    go_quiet (fail)
    go_wp2_with (go_at_call 69; refine (HG.out _).mono ?_; rintro e w' ⟨rfl, rfl⟩)
    go_ret
    exact ⟨rfl, below_draws HB.out _⟩
  · cases ib
    · have HG := Lib.hid hg
      clear hg
      have HB := Lib.hid (below_new w (.cells #[.int .i64 3, .bool false, .string t, .slice ad n cap, .slice adk nk capk] 26))
      go_enter Tryz.func52, Tryz.ntmps52
      go_wp2_with fail
      go_quiet (fail)
      go_wp2_with (go_at_call 69; refine (HG.out _).mono ?_; rintro e w' ⟨rfl, rfl⟩)
      go_ret
      exact ⟨rfl, below_draws HB.out _⟩
    · have HG := Lib.hid hg
      clear hg
      have HB := Lib.hid (below_new w (.cells #[.int .i64 3, .bool false, .string t, .slice ad n cap, .slice adk nk capk] 26))
      go_enter Tryz.func52, Tryz.ntmps52
      go_wp2_with fail
      go_quiet (fail)
      go_wp2_with (go_at_call 69; refine (HG.out _).mono ?_; rintro e w' ⟨rfl, rfl⟩)
      go_ret
      exact ⟨rfl, below_draws HB.out _⟩
set_option maxRecDepth 100000 in
set_option maxHeartbeats 2000000 in
theorem alone_4 (ht : (t.toList == []) = tb) (hi : ((n : Int) == 0) = ib) (hk : ((nk : Int) == 0) = kb) : Calls Tryz.prog 52 #[.agg #[.int .i64 4, .bool false, .string t, .slice ad n cap, .slice adk nk capk]] w fun e w' => e = .returned (.bool (decide (t.size ≤ 16384) && ib && kb)) ∧ Below w.heap.size w w' := by
  by_cases hs : t.size ≤ 16384
  · rw [decide_eq_true hs]
    cases ib
    · have HB := Lib.hid (below_new w (.cells #[.int .i64 4, .bool false, .string t, .slice ad n cap, .slice adk nk capk] 26))
      go_enter Tryz.func52, Tryz.ntmps52
      go_wp2_with fail
      go_quiet (fail)
      go_wp2
      go_ret
      exact ⟨rfl, below_draws HB.out _⟩
    · have HB := Lib.hid (below_new w (.cells #[.int .i64 4, .bool false, .string t, .slice ad n cap, .slice adk nk capk] 26))
      go_enter Tryz.func52, Tryz.ntmps52
      go_wp2_with fail
      go_quiet (fail)
      go_wp2
      go_ret
      exact ⟨rfl, below_draws HB.out _⟩
  · rw [decide_eq_false hs]
    have HB := Lib.hid (below_new w (.cells #[.int .i64 4, .bool false, .string t, .slice ad n cap, .slice adk nk capk] 26))
    go_enter Tryz.func52, Tryz.ntmps52
    go_wp2_with fail
    go_quiet (fail)
    go_wp2
    go_ret
    exact ⟨rfl, below_draws HB.out _⟩
set_option maxRecDepth 100000 in
set_option maxHeartbeats 2000000 in
theorem alone_5 (ht : (t.toList == []) = tb) (hi : ((n : Int) == 0) = ib) (hk : ((nk : Int) == 0) = kb) : Calls Tryz.prog 52 #[.agg #[.int .i64 5, .bool false, .string t, .slice ad n cap, .slice adk nk capk]] w fun e w' => e = .returned (.bool (tb && kb)) ∧ Below w.heap.size w w' := by
  cases tb
  · have HB := Lib.hid (below_new w (.cells #[.int .i64 5, .bool false, .string t, .slice ad n cap, .slice adk nk capk] 26))
    go_enter Tryz.func52, Tryz.ntmps52
    go_wp2_with fail
    go_quiet (fail)
    go_wp2
    go_ret
    exact ⟨rfl, below_draws HB.out _⟩
  · have HB := Lib.hid (below_new w (.cells #[.int .i64 5, .bool false, .string t, .slice ad n cap, .slice adk nk capk] 26))
    go_enter Tryz.func52, Tryz.ntmps52
    go_wp2_with fail
    go_quiet (fail)
    go_wp2
    go_ret
    exact ⟨rfl, below_draws HB.out _⟩
set_option maxRecDepth 100000 in
set_option maxHeartbeats 2000000 in
theorem alone_6 (ht : (t.toList == []) = tb) (hi : ((n : Int) == 0) = ib) (hk : ((nk : Int) == 0) = kb) {kok : Bool} (hq : ((nk : Int) == (n : Int)) = eqn) (hg : ∀ W, Below w.heap.size w W → Calls Tryz.prog 70 #[.slice adk nk capk] W fun e w' => e = .returned (.bool kok) ∧ W = w') : Calls Tryz.prog 52 #[.agg #[.int .i64 6, .bool false, .string t, .slice ad n cap, .slice adk nk capk]] w fun e w' => e = .returned (.bool (tb && eqn && kok)) ∧ Below w.heap.size w w' := by
  cases tb
  · have HG := Lib.hid hg
    clear hg
    have HB := Lib.hid (below_new w (.cells #[.int .i64 6, .bool false, .string t, .slice ad n cap, .slice adk nk capk] 26))
    go_enter Tryz.func52, Tryz.ntmps52
    go_wp2_with fail
    go_quiet (fail)
    go_wp2
    go_ret
    exact ⟨rfl, below_draws HB.out _⟩
  · cases eqn
    · have HG := Lib.hid hg
      clear hg
      have HB := Lib.hid (below_new w (.cells #[.int .i64 6, .bool false, .string t, .slice ad n cap, .slice adk nk capk] 26))
      go_enter Tryz.func52, Tryz.ntmps52
      go_wp2_with fail
      go_quiet (fail)
      go_wp2
      go_ret
      exact ⟨rfl, below_draws HB.out _⟩
    · have HG := Lib.hid hg
      clear hg
      have HB := Lib.hid (below_new w (.cells #[.int .i64 6, .bool false, .string t, .slice ad n cap, .slice adk nk capk] 26))
      go_enter Tryz.func52, Tryz.ntmps52
      go_wp2_with fail
      go_quiet (fail)
      go_wp2_with (go_at_call 70; refine (HG.out _ (below_draws HB.out _)).mono ?_; rintro e w' ⟨rfl, rfl⟩)
      go_ret
      exact ⟨rfl, below_draws HB.out _⟩
set_option maxRecDepth 100000 in
set_option maxHeartbeats 2000000 in
theorem alone_truth {k : Int} (ht : (t.toList == []) = tb) (hi : ((n : Int) == 0) = ib) (hk : ((nk : Int) == 0) = kb) (h2 : (k == 2) = false) : Calls Tryz.prog 52 #[.agg #[.int .i64 k, .bool true, .string t, .slice ad n cap, .slice adk nk capk]] w fun e w' => e = .returned (.bool (false)) ∧ Below w.heap.size w w' := by
  have HB := Lib.hid (below_new w (.cells #[.int .i64 k, .bool true, .string t, .slice ad n cap, .slice adk nk capk] 26))
  go_enter Tryz.func52, Tryz.ntmps52
  go_wp2_with fail
  go_quiet (fail)
  go_wp2
  go_ret
  exact ⟨rfl, below_draws HB.out _⟩
set_option maxRecDepth 100000 in
set_option maxHeartbeats 2000000 in
theorem alone_else {k : Int} (ht : (t.toList == []) = tb) (hi : ((n : Int) == 0) = ib) (hk : ((nk : Int) == 0) = kb) (h0 : (k == 0) = false) (h1 : (k == 1) = false) (h2 : (k == 2) = false) (h3 : (k == 3) = false) (h4 : (k == 4) = false) (h5 : (k == 5) = false) (h6 : (k == 6) = false) : Calls Tryz.prog 52 #[.agg #[.int .i64 k, .bool false, .string t, .slice ad n cap, .slice adk nk capk]] w fun e w' => e = .returned (.bool (false)) ∧ Below w.heap.size w w' := by
  have HB := Lib.hid (below_new w (.cells #[.int .i64 k, .bool false, .string t, .slice ad n cap, .slice adk nk capk] 26))
  go_enter Tryz.func52, Tryz.ntmps52
  go_wp2_with fail
  go_quiet (fail)
  go_wp2
  go_ret
  exact ⟨rfl, below_draws HB.out _⟩
end
end Go.Proofs.YtnmfoedfllmclaaGreatDoor
namespace Go.Proofs.YtnmfoedfllmclaaGreatDoor
open Go.RowKit Go.Shelf
set_option linter.unusedVariables false

theorem good_len {l : List UInt8} (h : goodB l = true) : l.length ≤ 101 := by
  unfold goodB at h
  simp only [Bool.and_eq_true, decide_eq_true_eq] at h
  have h2 := h.1.2
  rcases trim_minus l with ⟨r, rfl, e, -⟩ | ⟨-, e, -⟩
  · rw [e] at h2
    simp
    omega
  · rw [e] at h2
    omega
theorem keyOk_size {ks : List ByteArray} (h : keysOk ks = true) : ∀ x ∈ ks, x.size ≤ 16384 := by
  induction ks with
  | nil => intro x hx; cases hx
  | cons a l ih =>
    intro x hx
    cases l with
    | nil =>
      unfold keysOk at h
      rw [List.mem_singleton] at hx
      subst hx
      exact of_decide_eq_true h
    | cons c l =>
      unfold keysOk at h
      simp only [Bool.and_eq_true, decide_eq_true_eq] at h
      rcases List.mem_cons.1 hx with rfl | hx
      · exact h.1.1
      · exact ih h.2 x hx
theorem empty_size {t : ByteArray} (h : (t.toList == []) = true) : t.size ≤ 16384 := by
  have h2 := beq_iff_eq.1 h
  rw [ByteArray.toList_eq] at h2
  rw [Lib.size_eq, h2]
  simp
theorem alone_facts {k : Int} {b : Bool} {t : ByteArray} {its : List VT} {ks : List ByteArray} (h : aloneT (.node k b t its ks) = true) : t.size ≤ 16384 ∧ (∀ x ∈ ks, x.size ≤ 16384) ∧ (k = 6 → ks.length = its.length) := by
  unfold aloneT at h
  have h := (Bool.and_eq_true_iff.1 h).2
  have hnil : ks.isEmpty = true → ∀ x ∈ ks, x.size ≤ 16384 := fun e x hx => by rw [List.isEmpty_iff.1 e] at hx; cases hx
  split at h
  · simp only [Bool.and_eq_true] at h
    exact ⟨empty_size h.1.1, hnil h.2, fun e => by omega⟩
  · split at h
    · simp only [Bool.and_eq_true] at h
      have := good_len h.1.1
      rw [← Lib.size_eq] at this
      exact ⟨by omega, hnil h.2, fun e => by omega⟩
    · split at h
      · simp only [Bool.and_eq_true, decide_eq_true_eq] at h
        exact ⟨h.1.1, hnil h.2, fun e => by omega⟩
      · split at h
        · simp only [Bool.and_eq_true] at h
          exact ⟨empty_size h.1, hnil h.2, fun e => by omega⟩
        · split at h
          · simp only [Bool.and_eq_true, decide_eq_true_eq] at h
            exact ⟨empty_size h.1.1, keyOk_size h.2, fun e => h.1.2⟩
          · cases h
theorem plain_node {k : Int} {b : Bool} {t : ByteArray} {its : List VT} {ks : List ByteArray} (h : plainT (.node k b t its ks) = true) : aloneT (.node k b t its ks) = true ∧ plainL its = true := by
  unfold plainT at h
  exact Bool.and_eq_true_iff.1 h
theorem plain_cons {x : VT} {l : List VT} (h : plainL (x :: l) = true) : plainT x = true ∧ plainL l = true := by
  unfold plainL at h
  exact Bool.and_eq_true_iff.1 h
mutual
theorem plain_even : ∀ T : VT, plainT T = true → evenT T
  | .node k b t its ks, h => evenT_node.2 ⟨(alone_facts (plain_node h).1).2.2, plain_evenL its (plain_node h).2⟩
theorem plain_evenL : ∀ l : List VT, plainL l = true → ∀ x ∈ l, evenT x
  | [], h, x, hx => by cases hx
  | y :: l, h, x, hx => by
    rcases List.mem_cons.1 hx with h1 | hx
    · rw [h1]; exact plain_even y (plain_cons h).1
    · exact plain_evenL l (plain_cons h).2 x hx
end
mutual
theorem plain_short : ∀ T : VT, plainT T = true → shortT T
  | .node k b t its ks, h => shortT_node.2 ⟨by have := (alone_facts (plain_node h).1).1; omega, fun x hx => by have := (alone_facts (plain_node h).1).2.1 x hx; omega, plain_shortL its (plain_node h).2⟩
theorem plain_shortL : ∀ l : List VT, plainL l = true → ∀ x ∈ l, shortT x
  | [], h, x, hx => by cases hx
  | y :: l, h, x, hx => by
    rcases List.mem_cons.1 hx with h1 | hx
    · rw [h1]; exact plain_short y (plain_cons h).1
    · exact plain_shortL l (plain_cons h).2 x hx
end
theorem quoteL_len {L : List UInt8} {t : ByteArray} (h : t.size ≤ 16384) : (quoteL L t).length ≤ L.length + 98306 := by
  unfold quoteL
  split
  · omega
  · have := textQ_len t.size t.data.toList
    simp
    omega
mutual
theorem appV_len : ∀ (T : VT) (L : List UInt8), plainT T = true → (appV T L).length + 100000 ≤ L.length + 200000 * sizeT T
  | .node k b t its ks, L, h => by
    have hf := alone_facts (plain_node h).1
    have h5 := appI_len its true (L ++ [91]) (plain_node h).2
    have h6 := appP_len ks its true (L ++ [123]) (plain_node h).2 hf.2.1
    have hs : sizeT (.node k b t its ks) = 1 + sizeL its := by unfold sizeT; rfl
    rw [hs]
    have hq := quoteL_len (L := L) hf.1
    have ht := Lib.size_eq t
    unfold appV
    simp only [List.length_append, List.length_singleton] at h5 h6
    split
    · split <;> (simp only [List.length_append, List.length_cons, List.length_nil]; omega)
    · split
      · rw [List.length_append, ← Lib.size_eq]; omega
      · split
        · omega
        · split
          · simp only [List.length_append, List.length_singleton]; omega
          · split
            · simp only [List.length_append, List.length_singleton]; omega
            · simp only [List.length_append, List.length_cons, List.length_nil]; omega
theorem appI_len : ∀ (l : List VT) (f : Bool) (L : List UInt8), plainL l = true → (appI l f L).length ≤ L.length + 200000 * sizeL l
  | [], f, L, h => by unfold appI; omega
  | x :: l, f, L, h => by
    have h1 := appV_len x (if f then L else L ++ [44]) (plain_cons h).1
    have h2 := appI_len l false (appV x (if f then L else L ++ [44])) (plain_cons h).2
    have h3 : (if f then L else L ++ [44]).length ≤ L.length + 1 := by split <;> simp
    unfold appI sizeL
    omega
theorem appP_len : ∀ (ks : List ByteArray) (l : List VT) (f : Bool) (L : List UInt8), plainL l = true → (∀ x ∈ ks, x.size ≤ 16384) → (appP ks l f L).length ≤ L.length + 200000 * sizeL l
  | k :: ks, x :: l, f, L, h, hk => by
    have h3 : (if f then L else L ++ [44]).length ≤ L.length + 1 := by split <;> simp
    have h4 := quoteL_len (L := if f then L else L ++ [44]) (hk k (by simp))
    have h1 := appV_len x (quoteL (if f then L else L ++ [44]) k ++ [58]) (plain_cons h).1
    have h2 := appP_len ks l false (appV x (quoteL (if f then L else L ++ [44]) k ++ [58])) (plain_cons h).2 (fun y hy => hk y (by simp [hy]))
    simp only [List.length_append, List.length_singleton] at h1
    unfold appP sizeL
    omega
  | [], l, f, L, h, hk => by unfold appP; omega
  | k :: ks, [], f, L, h, hk => by unfold appP; omega
end
end Go.Proofs.YtnmfoedfllmclaaGreatDoor
namespace Go.Proofs.YtnmfoedfllmclaaGreatDoor
open Go.RowKit
set_option linter.unusedVariables false

theorem alone_any {B : Nat} {w : World} {v : Value} {T : VT} (h : Is B w v T) (W : World) (hb : Below B w W) (hBW : B ≤ W.heap.size) : Calls Tryz.prog 52 #[v] W fun e w' => e = .returned (.bool (aloneT T)) ∧ Below W.heap.size W w' := by
  cases h with
  | mk k b t its ks ad cap kv g o ik ib it ii iv hk hc hnl ha hcell hrec =>
    rw [aloneT_B]
    have hg6 : ∀ W', Below W.heap.size W W' → Calls Tryz.prog 70 #[kv] W' fun e w' => e = .returned (.bool (keysOk ks)) ∧ W' = w' := fun W' hb' => goodKeys_any ((hk.below hb).below (hb'.mono hBW))
    obtain ⟨adk, capk, rfl, -⟩ := hk
    cases b
    · unfold aloneB
      simp only [Bool.not_false, Bool.true_or, Bool.true_and]
      by_cases h0 : k = 0
      · subst h0; rw [if_pos (by simp)]; exact alone_0_false rfl rfl rfl
      · by_cases h1 : k = 1
        · subst h1; rw [if_pos (by simp)]; exact alone_1_false rfl rfl rfl
        · by_cases h2 : k = 2
          · subst h2; rw [if_pos (by simp)]; exact alone_2_false rfl rfl rfl
          · rw [if_neg (by simp [h0, h1, h2])]
            by_cases h3 : k = 3
            · subst h3; rw [if_pos rfl]; exact alone_3 rfl rfl rfl (fun W' => Good_any t W')
            · rw [if_neg h3]
              by_cases h4 : k = 4
              · subst h4; rw [if_pos rfl]; exact alone_4 rfl rfl rfl
              · rw [if_neg h4]
                by_cases h5 : k = 5
                · subst h5; rw [if_pos rfl]; exact alone_5 rfl rfl rfl
                · rw [if_neg h5]
                  by_cases h6 : k = 6
                  · subst h6; rw [if_pos rfl]; exact alone_6 rfl rfl rfl rfl hg6
                  · rw [if_neg h6]
                    exact alone_else rfl rfl rfl (beq_eq_false_iff_ne.2 h0) (beq_eq_false_iff_ne.2 h1) (beq_eq_false_iff_ne.2 h2) (beq_eq_false_iff_ne.2 h3) (beq_eq_false_iff_ne.2 h4) (beq_eq_false_iff_ne.2 h5) (beq_eq_false_iff_ne.2 h6)
    · by_cases h2 : k = 2
      · subst h2
        have e : aloneB 2 true (t.toList == []) (goodB t.data.toList) (decide (t.size ≤ 16384)) ((its.length : Int) == 0) ((ks.length : Int) == 0) ((ks.length : Int) == (its.length : Int)) (keysOk ks) = ((t.toList == []) && ((its.length : Int) == 0) && ((ks.length : Int) == 0)) := by unfold aloneB; simp
        rw [e]
        exact alone_2_true rfl rfl rfl
      · have e : aloneB k true (t.toList == []) (goodB t.data.toList) (decide (t.size ≤ 16384)) ((its.length : Int) == 0) ((ks.length : Int) == 0) ((ks.length : Int) == (its.length : Int)) (keysOk ks) = false := by unfold aloneB; simp [h2]
        rw [e]
        exact alone_truth rfl rfl rfl (beq_eq_false_iff_ne.2 h2)

/-- What goodWithin tells, room for r items more. -/
def within (d r : Nat) (T : VT) : Prop := deepT d T = true ∧ sizeT T ≤ r + 1 ∧ plainT T = true
/-- .. of the first j items. -/
def withinL (d : Nat) (its : List VT) (j : Nat) : Prop := ∀ i (h : i < its.length), i < j → deepT d its[i] = true ∧ plainT its[i] = true
theorem plainL_all : ∀ {l : List VT}, (∀ j (h : j < l.length), plainT l[j] = true) → plainL l = true
  | [], _ => rfl
  | x :: l, h => by
    have h0 : plainT x = true := h 0 (by simp)
    unfold plainL
    rw [h0, plainL_all (fun j hj => h (j + 1) (by simpa using hj))]
    rfl
theorem plainL_at : ∀ {l : List VT} {j : Nat} (h : j < l.length), plainL l = true → plainT l[j] = true
  | x :: l, 0, _, e => by
    unfold plainL at e
    have := (Bool.and_eq_true_iff.1 e).1
    exact this
  | x :: l, j + 1, h, e => by
    unfold plainL at e
    exact plainL_at (l := l) (by simpa using h) (Bool.and_eq_true_iff.1 e).2
theorem within_node {d r : Nat} {k : Int} {b : Bool} {t : ByteArray} {its : List VT} {ks : List ByteArray} : within (d + 1) r (.node k b t its ks) ↔ deepL d its = true ∧ sizeL its ≤ r ∧ aloneT (.node k b t its ks) = true ∧ plainL its = true := by
  unfold within
  have h1 : deepT (d + 1) (.node k b t its ks) = deepL d its := by unfold deepT; rfl
  have h2 : sizeT (.node k b t its ks) = 1 + sizeL its := by unfold sizeT; rfl
  have h3 : plainT (.node k b t its ks) = (aloneT (.node k b t its ks) && plainL its) := by conv => lhs; unfold plainT
  rw [h1, h2, h3, Bool.and_eq_true_iff]
  constructor
  · rintro ⟨a, b, c, d⟩; exact ⟨a, by omega, c, d⟩
  · rintro ⟨a, b, c, d⟩; exact ⟨a, by omega, c, d⟩
theorem not_within_zero {r : Nat} {T : VT} : ¬ within 0 r T := by
  rintro ⟨h, -⟩
  cases T
  unfold deepT at h
  cases h
end Go.Proofs.YtnmfoedfllmclaaGreatDoor
