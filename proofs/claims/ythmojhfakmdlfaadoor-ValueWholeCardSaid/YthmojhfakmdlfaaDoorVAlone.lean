/- value.goodAlone. -/
import Derived.Test.YthmojhfakmdlfaaDoorVKeys
import Derived.Test.YthmojhfakmdlfaaDoorVVals
import Derived.Deep.QuietTactic
import Derived.BigQuiet
namespace Go.Proofs.YthmojhfakmdlfaaDoor
open Go.RowKit
set_option linter.unusedVariables false

/-- Has a value just what its kind needs: tb: no text; good: the text is a number; short: it isn't too long; ib, kb: no items, no keys; eqn: as many; kok: the keys are as they should be. -/
def aloneB (k : Int) (b tb good short ib kb eqn kok : Bool) : Bool := (!b || k == 2) && (if k = 0 ∨ k = 1 ∨ k = 2 then tb && ib && kb else if k = 3 then good && ib && kb else if k = 4 then short && ib && kb else if k = 5 then tb && kb else if k = 6 then tb && eqn && kok else false)
theorem aloneT_B (k : Int) (b : Bool) (t : ByteArray) (its : List VT) (ks : List ByteArray) : aloneT (.node k b t its ks) = aloneB k b (t.toList == []) (goodB t.data.toList) (decide (t.size ≤ 16384)) ((its.length : Int) == 0) ((ks.length : Int) == 0) ((ks.length : Int) == (its.length : Int)) (keysOk ks) := by
  have e1 : ((its.length : Int) == 0) = its.isEmpty := by cases its <;> simp <;> omega
  have e2 : ((ks.length : Int) == 0) = ks.isEmpty := by cases ks <;> simp <;> omega
  have e3 : ((ks.length : Int) == (its.length : Int)) = decide (ks.length = its.length) := by rw [Bool.eq_iff_iff, beq_iff_eq, decide_eq_true_iff]; omega
  rw [e1, e2, e3]
  rfl

theorem below_draws {B : Nat} {a c : World} (h : Below B a c) (n : Nat) : Below B a (c.drewN n) := ⟨h.os, h.tape, h.output, h.size, h.block⟩
section
variable {B : Nat} {w : World} {t : ByteArray} {ad adk : Option Addr} {n cap nk capk : Nat} {tb good ib kb eqn : Bool}
set_option maxRecDepth 100000 in
set_option maxHeartbeats 2000000 in
theorem alone_0_false (ht : (t.toList == []) = tb) (hi : ((n : Int) == 0) = ib) (hk : ((nk : Int) == 0) = kb) : Calls Tryd.prog 45 #[.agg #[.int .i64 0, .bool false, .string t, .slice ad n cap, .slice adk nk capk]] w fun e w' => e = .returned (.bool (tb && ib && kb)) ∧ Below w.heap.size w w' := by
  cases tb
  · have HB := Lib.hid (below_new w (.cells #[.int .i64 0, .bool false, .string t, .slice ad n cap, .slice adk nk capk] 26))
    go_enter Tryd.func45, Tryd.ntmps45
    go_wp2_with fail
    go_quiet (fail)
    go_wp2
    go_ret
    exact ⟨rfl, below_draws HB.out _⟩
  · cases ib
    · have HB := Lib.hid (below_new w (.cells #[.int .i64 0, .bool false, .string t, .slice ad n cap, .slice adk nk capk] 26))
      go_enter Tryd.func45, Tryd.ntmps45
      go_wp2_with fail
      go_quiet (fail)
      go_wp2
      go_ret
      exact ⟨rfl, below_draws HB.out _⟩
    · have HB := Lib.hid (below_new w (.cells #[.int .i64 0, .bool false, .string t, .slice ad n cap, .slice adk nk capk] 26))
      go_enter Tryd.func45, Tryd.ntmps45
      go_wp2_with fail
      go_quiet (fail)
      go_wp2
      go_ret
      exact ⟨rfl, below_draws HB.out _⟩
set_option maxRecDepth 100000 in
set_option maxHeartbeats 2000000 in
theorem alone_1_false (ht : (t.toList == []) = tb) (hi : ((n : Int) == 0) = ib) (hk : ((nk : Int) == 0) = kb) : Calls Tryd.prog 45 #[.agg #[.int .i64 1, .bool false, .string t, .slice ad n cap, .slice adk nk capk]] w fun e w' => e = .returned (.bool (tb && ib && kb)) ∧ Below w.heap.size w w' := by
  cases tb
  · have HB := Lib.hid (below_new w (.cells #[.int .i64 1, .bool false, .string t, .slice ad n cap, .slice adk nk capk] 26))
    go_enter Tryd.func45, Tryd.ntmps45
    go_wp2_with fail
    go_quiet (fail)
    go_wp2
    go_ret
    exact ⟨rfl, below_draws HB.out _⟩
  · cases ib
    · have HB := Lib.hid (below_new w (.cells #[.int .i64 1, .bool false, .string t, .slice ad n cap, .slice adk nk capk] 26))
      go_enter Tryd.func45, Tryd.ntmps45
      go_wp2_with fail
      go_quiet (fail)
      go_wp2
      go_ret
      exact ⟨rfl, below_draws HB.out _⟩
    · have HB := Lib.hid (below_new w (.cells #[.int .i64 1, .bool false, .string t, .slice ad n cap, .slice adk nk capk] 26))
      go_enter Tryd.func45, Tryd.ntmps45
      go_wp2_with fail
      go_quiet (fail)
      go_wp2
      go_ret
      exact ⟨rfl, below_draws HB.out _⟩
set_option maxRecDepth 100000 in
set_option maxHeartbeats 2000000 in
theorem alone_2_false (ht : (t.toList == []) = tb) (hi : ((n : Int) == 0) = ib) (hk : ((nk : Int) == 0) = kb) : Calls Tryd.prog 45 #[.agg #[.int .i64 2, .bool false, .string t, .slice ad n cap, .slice adk nk capk]] w fun e w' => e = .returned (.bool (tb && ib && kb)) ∧ Below w.heap.size w w' := by
  cases tb
  · have HB := Lib.hid (below_new w (.cells #[.int .i64 2, .bool false, .string t, .slice ad n cap, .slice adk nk capk] 26))
    go_enter Tryd.func45, Tryd.ntmps45
    go_wp2_with fail
    go_quiet (fail)
    go_wp2
    go_ret
    exact ⟨rfl, below_draws HB.out _⟩
  · cases ib
    · have HB := Lib.hid (below_new w (.cells #[.int .i64 2, .bool false, .string t, .slice ad n cap, .slice adk nk capk] 26))
      go_enter Tryd.func45, Tryd.ntmps45
      go_wp2_with fail
      go_quiet (fail)
      go_wp2
      go_ret
      exact ⟨rfl, below_draws HB.out _⟩
    · have HB := Lib.hid (below_new w (.cells #[.int .i64 2, .bool false, .string t, .slice ad n cap, .slice adk nk capk] 26))
      go_enter Tryd.func45, Tryd.ntmps45
      go_wp2_with fail
      go_quiet (fail)
      go_wp2
      go_ret
      exact ⟨rfl, below_draws HB.out _⟩
set_option maxRecDepth 100000 in
set_option maxHeartbeats 2000000 in
theorem alone_2_true (ht : (t.toList == []) = tb) (hi : ((n : Int) == 0) = ib) (hk : ((nk : Int) == 0) = kb) : Calls Tryd.prog 45 #[.agg #[.int .i64 2, .bool true, .string t, .slice ad n cap, .slice adk nk capk]] w fun e w' => e = .returned (.bool (tb && ib && kb)) ∧ Below w.heap.size w w' := by
  cases tb
  · have HB := Lib.hid (below_new w (.cells #[.int .i64 2, .bool true, .string t, .slice ad n cap, .slice adk nk capk] 26))
    go_enter Tryd.func45, Tryd.ntmps45
    go_wp2_with fail
    go_quiet (fail)
    go_wp2
    go_ret
    exact ⟨rfl, below_draws HB.out _⟩
  · cases ib
    · have HB := Lib.hid (below_new w (.cells #[.int .i64 2, .bool true, .string t, .slice ad n cap, .slice adk nk capk] 26))
      go_enter Tryd.func45, Tryd.ntmps45
      go_wp2_with fail
      go_quiet (fail)
      go_wp2
      go_ret
      exact ⟨rfl, below_draws HB.out _⟩
    · have HB := Lib.hid (below_new w (.cells #[.int .i64 2, .bool true, .string t, .slice ad n cap, .slice adk nk capk] 26))
      go_enter Tryd.func45, Tryd.ntmps45
      go_wp2_with fail
      go_quiet (fail)
      go_wp2
      go_ret
      exact ⟨rfl, below_draws HB.out _⟩
set_option maxRecDepth 100000 in
set_option maxHeartbeats 2000000 in
theorem alone_3 (ht : (t.toList == []) = tb) (hi : ((n : Int) == 0) = ib) (hk : ((nk : Int) == 0) = kb) (hg : ∀ W, Calls Tryd.prog 54 #[.string t] W fun e w' => e = .returned (.bool good) ∧ W = w') : Calls Tryd.prog 45 #[.agg #[.int .i64 3, .bool false, .string t, .slice ad n cap, .slice adk nk capk]] w fun e w' => e = .returned (.bool (good && ib && kb)) ∧ Below w.heap.size w w' := by
  cases good
  · have HG := Lib.hid hg
    clear hg
    have HB := Lib.hid (below_new w (.cells #[.int .i64 3, .bool false, .string t, .slice ad n cap, .slice adk nk capk] 26))
    go_enter Tryd.func45, Tryd.ntmps45
    go_wp2_with fail
    go_quiet (fail)
    go_wp2_with (go_at_call 54; refine (HG.out _).mono ?_; rintro e w' ⟨rfl, rfl⟩)
    go_ret
    exact ⟨rfl, below_draws HB.out _⟩
  · cases ib
    · have HG := Lib.hid hg
      clear hg
      have HB := Lib.hid (below_new w (.cells #[.int .i64 3, .bool false, .string t, .slice ad n cap, .slice adk nk capk] 26))
      go_enter Tryd.func45, Tryd.ntmps45
      go_wp2_with fail
      go_quiet (fail)
      go_wp2_with (go_at_call 54; refine (HG.out _).mono ?_; rintro e w' ⟨rfl, rfl⟩)
      go_ret
      exact ⟨rfl, below_draws HB.out _⟩
    · have HG := Lib.hid hg
      clear hg
      have HB := Lib.hid (below_new w (.cells #[.int .i64 3, .bool false, .string t, .slice ad n cap, .slice adk nk capk] 26))
      go_enter Tryd.func45, Tryd.ntmps45
      go_wp2_with fail
      go_quiet (fail)
      go_wp2_with (go_at_call 54; refine (HG.out _).mono ?_; rintro e w' ⟨rfl, rfl⟩)
      go_ret
      exact ⟨rfl, below_draws HB.out _⟩
set_option maxRecDepth 100000 in
set_option maxHeartbeats 2000000 in
theorem alone_4 (ht : (t.toList == []) = tb) (hi : ((n : Int) == 0) = ib) (hk : ((nk : Int) == 0) = kb) : Calls Tryd.prog 45 #[.agg #[.int .i64 4, .bool false, .string t, .slice ad n cap, .slice adk nk capk]] w fun e w' => e = .returned (.bool (decide (t.size ≤ 16384) && ib && kb)) ∧ Below w.heap.size w w' := by
  by_cases hs : t.size ≤ 16384
  · rw [decide_eq_true hs]
    cases ib
    · have HB := Lib.hid (below_new w (.cells #[.int .i64 4, .bool false, .string t, .slice ad n cap, .slice adk nk capk] 26))
      go_enter Tryd.func45, Tryd.ntmps45
      go_wp2_with fail
      go_quiet (fail)
      go_wp2
      go_ret
      exact ⟨rfl, below_draws HB.out _⟩
    · have HB := Lib.hid (below_new w (.cells #[.int .i64 4, .bool false, .string t, .slice ad n cap, .slice adk nk capk] 26))
      go_enter Tryd.func45, Tryd.ntmps45
      go_wp2_with fail
      go_quiet (fail)
      go_wp2
      go_ret
      exact ⟨rfl, below_draws HB.out _⟩
  · rw [decide_eq_false hs]
    have HB := Lib.hid (below_new w (.cells #[.int .i64 4, .bool false, .string t, .slice ad n cap, .slice adk nk capk] 26))
    go_enter Tryd.func45, Tryd.ntmps45
    go_wp2_with fail
    go_quiet (fail)
    go_wp2
    go_ret
    exact ⟨rfl, below_draws HB.out _⟩
set_option maxRecDepth 100000 in
set_option maxHeartbeats 2000000 in
theorem alone_5 (ht : (t.toList == []) = tb) (hi : ((n : Int) == 0) = ib) (hk : ((nk : Int) == 0) = kb) : Calls Tryd.prog 45 #[.agg #[.int .i64 5, .bool false, .string t, .slice ad n cap, .slice adk nk capk]] w fun e w' => e = .returned (.bool (tb && kb)) ∧ Below w.heap.size w w' := by
  cases tb
  · have HB := Lib.hid (below_new w (.cells #[.int .i64 5, .bool false, .string t, .slice ad n cap, .slice adk nk capk] 26))
    go_enter Tryd.func45, Tryd.ntmps45
    go_wp2_with fail
    go_quiet (fail)
    go_wp2
    go_ret
    exact ⟨rfl, below_draws HB.out _⟩
  · have HB := Lib.hid (below_new w (.cells #[.int .i64 5, .bool false, .string t, .slice ad n cap, .slice adk nk capk] 26))
    go_enter Tryd.func45, Tryd.ntmps45
    go_wp2_with fail
    go_quiet (fail)
    go_wp2
    go_ret
    exact ⟨rfl, below_draws HB.out _⟩
set_option maxRecDepth 100000 in
set_option maxHeartbeats 2000000 in
theorem alone_6 (ht : (t.toList == []) = tb) (hi : ((n : Int) == 0) = ib) (hk : ((nk : Int) == 0) = kb) {kok : Bool} (hq : ((nk : Int) == (n : Int)) = eqn) (hg : ∀ W, Below w.heap.size w W → Calls Tryd.prog 59 #[.slice adk nk capk] W fun e w' => e = .returned (.bool kok) ∧ W = w') : Calls Tryd.prog 45 #[.agg #[.int .i64 6, .bool false, .string t, .slice ad n cap, .slice adk nk capk]] w fun e w' => e = .returned (.bool (tb && eqn && kok)) ∧ Below w.heap.size w w' := by
  cases tb
  · have HG := Lib.hid hg
    clear hg
    have HB := Lib.hid (below_new w (.cells #[.int .i64 6, .bool false, .string t, .slice ad n cap, .slice adk nk capk] 26))
    go_enter Tryd.func45, Tryd.ntmps45
    go_wp2_with fail
    go_quiet (fail)
    go_wp2
    go_ret
    exact ⟨rfl, below_draws HB.out _⟩
  · cases eqn
    · have HG := Lib.hid hg
      clear hg
      have HB := Lib.hid (below_new w (.cells #[.int .i64 6, .bool false, .string t, .slice ad n cap, .slice adk nk capk] 26))
      go_enter Tryd.func45, Tryd.ntmps45
      go_wp2_with fail
      go_quiet (fail)
      go_wp2
      go_ret
      exact ⟨rfl, below_draws HB.out _⟩
    · have HG := Lib.hid hg
      clear hg
      have HB := Lib.hid (below_new w (.cells #[.int .i64 6, .bool false, .string t, .slice ad n cap, .slice adk nk capk] 26))
      go_enter Tryd.func45, Tryd.ntmps45
      go_wp2_with fail
      go_quiet (fail)
      go_wp2_with (go_at_call 59; refine (HG.out _ (below_draws HB.out _)).mono ?_; rintro e w' ⟨rfl, rfl⟩)
      go_ret
      exact ⟨rfl, below_draws HB.out _⟩
set_option maxRecDepth 100000 in
set_option maxHeartbeats 2000000 in
theorem alone_truth {k : Int} (ht : (t.toList == []) = tb) (hi : ((n : Int) == 0) = ib) (hk : ((nk : Int) == 0) = kb) (h2 : (k == 2) = false) : Calls Tryd.prog 45 #[.agg #[.int .i64 k, .bool true, .string t, .slice ad n cap, .slice adk nk capk]] w fun e w' => e = .returned (.bool (false)) ∧ Below w.heap.size w w' := by
  have HB := Lib.hid (below_new w (.cells #[.int .i64 k, .bool true, .string t, .slice ad n cap, .slice adk nk capk] 26))
  go_enter Tryd.func45, Tryd.ntmps45
  go_wp2_with fail
  go_quiet (fail)
  go_wp2
  go_ret
  exact ⟨rfl, below_draws HB.out _⟩
set_option maxRecDepth 100000 in
set_option maxHeartbeats 2000000 in
theorem alone_else {k : Int} (ht : (t.toList == []) = tb) (hi : ((n : Int) == 0) = ib) (hk : ((nk : Int) == 0) = kb) (h0 : (k == 0) = false) (h1 : (k == 1) = false) (h2 : (k == 2) = false) (h3 : (k == 3) = false) (h4 : (k == 4) = false) (h5 : (k == 5) = false) (h6 : (k == 6) = false) : Calls Tryd.prog 45 #[.agg #[.int .i64 k, .bool false, .string t, .slice ad n cap, .slice adk nk capk]] w fun e w' => e = .returned (.bool (false)) ∧ Below w.heap.size w w' := by
  have HB := Lib.hid (below_new w (.cells #[.int .i64 k, .bool false, .string t, .slice ad n cap, .slice adk nk capk] 26))
  go_enter Tryd.func45, Tryd.ntmps45
  go_wp2_with fail
  go_quiet (fail)
  go_wp2
  go_ret
  exact ⟨rfl, below_draws HB.out _⟩
end
end Go.Proofs.YthmojhfakmdlfaaDoor
