/- value.goodAlone · value.goodAlone of a tree -/
import Derived.Deep.QuietTactic
import Derived.BigQuiet
import Derived.Test.YtjgbhnbfojkhoaaDoorMk08
import Derived.Test.YtjgbhnbfojkhoaaDoorMk10
import Derived.Test.YtjgbhnbfojkhoaaDoorMk22
namespace Go.Proofs.YtjgbhnbfojkhoaaDoor
open Go.RowKit
set_option linter.unusedVariables false

/-- Has a value just what its kind needs: tb: no text; good: the text is a number; short: it isn't too long; ib, kb: no items, no keys; eqn: as many; kok: the keys are as they should be. -/
def aloneB (k : Int) (b tb good short ib kb eqn kok : Bool) : Bool := (!b || k == 2) && (if k = 0 ∨ k = 1 ∨ k = 2 then tb && ib && kb else if k = 3 then good && ib && kb else if k = 4 then short && ib && kb else if k = 5 then tb && kb else if k = 6 then tb && eqn && kok else false)
theorem aloneT_B (k : Int) (b : Bool) (t : ByteArray) (its : List VT) (ks : List ByteArray) : aloneT (.node k b t its ks) = aloneB k b (t.toList == []) (goodB t.data.toList) (decide (t.size ≤ 16384)) ((its.length : Int) == 0) ((ks.length : Int) == 0) ((ks.length : Int) == (its.length : Int)) (keysOk ks) := by
  have e1 : ((its.length : Int) == 0) = its.isEmpty := by cases its <;> simp <;> omega
  have e2 : ((ks.length : Int) == 0) = ks.isEmpty := by cases ks <;> simp <;> omega
  have e3 : ((ks.length : Int) == (its.length : Int)) = decide (ks.length = its.length) := by rw [Bool.eq_iff_iff, beq_iff_eq, decide_eq_true_iff]; omega
  rw [e1, e2, e3]
  rfl

theorem below_draws {B : Nat} {a c : World} (h : Below B a c) (n : Nat) : Below B a (c.drewN n) := ⟨h.os, h.tape, h.output, h.size, h.block⟩
section
variable {B : Nat} {w : World} {t : ByteArray} {ad adk : Option Addr} {n cap nk capk : Nat} {tb good ib kb eqn : Bool}
set_option maxRecDepth 100000 in
set_option maxHeartbeats 2000000 in
theorem alone_0_false (ht : (t.toList == []) = tb) (hi : ((n : Int) == 0) = ib) (hk : ((nk : Int) == 0) = kb) : Calls Tryd.prog 45 #[.agg #[.int .i64 0, .bool false, .string t, .slice ad n cap, .slice adk nk capk]] w fun e w' => e = .returned (.bool (tb && ib && kb)) ∧ Below w.heap.size w w' := by
  cases tb
  · have HB := Lib.hid (below_new w (.cells #[.int .i64 0, .bool false, .string t, .slice ad n cap, .slice adk nk capk] 26))
    go_enter Tryd.func45, Tryd.ntmps45
    go_wp2_with fail
    go_quiet (fail)
    go_wp2
    go_ret
    exact ⟨rfl, below_draws HB.out _⟩
  · cases ib
    · have HB := Lib.hid (below_new w (.cells #[.int .i64 0, .bool false, .string t, .slice ad n cap, .slice adk nk capk] 26))
      go_enter Tryd.func45, Tryd.ntmps45
      go_wp2_with fail
      go_quiet (fail)
      go_wp2
      go_ret
      exact ⟨rfl, below_draws HB.out _⟩
    · have HB := Lib.hid (below_new w (.cells #[.int .i64 0, .bool false, .string t, .slice ad n cap, .slice adk nk capk] 26))
      go_enter Tryd.func45, Tryd.ntmps45
      go_wp2_with fail
      go_quiet (fail)
      go_wp2
      go_ret
      exact ⟨rfl, below_draws HB.out _⟩
set_option maxRecDepth 100000 in
set_option maxHeartbeats 2000000 in
theorem alone_1_false (ht : (t.toList == []) = tb) (hi : ((n : Int) == 0) = ib) (hk : ((nk : Int) == 0) = kb) : Calls Tryd.prog 45 #[.agg #[.int .i64 1, .bool false, .string t, .slice ad n cap, .slice adk nk capk]] w fun e w' => e = .returned (.bool (tb && ib && kb)) ∧ Below w.heap.size w w' := by
  cases tb
  · have HB := Lib.hid (below_new w (.cells #[.int .i64 1, .bool false, .string t, .slice ad n cap, .slice adk nk capk] 26))
    go_enter Tryd.func45, Tryd.ntmps45
    go_wp2_with fail
    go_quiet (fail)
    go_wp2
    go_ret
    exact ⟨rfl, below_draws HB.out _⟩
  · cases ib
    · have HB := Lib.hid (below_new w (.cells #[.int .i64 1, .bool false, .string t, .slice ad n cap, .slice adk nk capk] 26))
      go_enter Tryd.func45, Tryd.ntmps45
      go_wp2_with fail
      go_quiet (fail)
      go_wp2
      go_ret
      exact ⟨rfl, below_draws HB.out _⟩
    · have HB := Lib.hid (below_new w (.cells #[.int .i64 1, .bool false, .string t, .slice ad n cap, .slice adk nk capk] 26))
      go_enter Tryd.func45, Tryd.ntmps45
      go_wp2_with fail
      go_quiet (fail)
      go_wp2
      go_ret
      exact ⟨rfl, below_draws HB.out _⟩
set_option maxRecDepth 100000 in
set_option maxHeartbeats 2000000 in
theorem alone_2_false (ht : (t.toList == []) = tb) (hi : ((n : Int) == 0) = ib) (hk : ((nk : Int) == 0) = kb) : Calls Tryd.prog 45 #[.agg #[.int .i64 2, .bool false, .string t, .slice ad n cap, .slice adk nk capk]] w fun e w' => e = .returned (.bool (tb && ib && kb)) ∧ Below w.heap.size w w' := by
  cases tb
  · have HB := Lib.hid (below_new w (.cells #[.int .i64 2, .bool false, .string t, .slice ad n cap, .slice adk nk capk] 26))
    go_enter Tryd.func45, Tryd.ntmps45
    go_wp2_with fail
    go_quiet (fail)
    go_wp2
    go_ret
    exact ⟨rfl, below_draws HB.out _⟩
  · cases ib
    · have HB := Lib.hid (below_new w (.cells #[.int .i64 2, .bool false, .string t, .slice ad n cap, .slice adk nk capk] 26))
      go_enter Tryd.func45, Tryd.ntmps45
      go_wp2_with fail
      go_quiet (fail)
      go_wp2
      go_ret
      exact ⟨rfl, below_draws HB.out _⟩
    · have HB := Lib.hid (below_new w (.cells #[.int .i64 2, .bool false, .string t, .slice ad n cap, .slice adk nk capk] 26))
      go_enter Tryd.func45, Tryd.ntmps45
      go_wp2_with fail
      go_quiet (fail)
      go_wp2
      go_ret
      exact ⟨rfl, below_draws HB.out _⟩
set_option maxRecDepth 100000 in
set_option maxHeartbeats 2000000 in
theorem alone_2_true (ht : (t.toList == []) = tb) (hi : ((n : Int) == 0) = ib) (hk : ((nk : Int) == 0) = kb) : Calls Tryd.prog 45 #[.agg #[.int .i64 2, .bool true, .string t, .slice ad n cap, .slice adk nk capk]] w fun e w' => e = .returned (.bool (tb && ib && kb)) ∧ Below w.heap.size w w' := by
  cases tb
  · have HB := Lib.hid (below_new w (.cells #[.int .i64 2, .bool true, .string t, .slice ad n cap, .slice adk nk capk] 26))
    go_enter Tryd.func45, Tryd.ntmps45
    go_wp2_with fail
    go_quiet (fail)
    go_wp2
    go_ret
    exact ⟨rfl, below_draws HB.out _⟩
  · cases ib
    · have HB := Lib.hid (below_new w (.cells #[.int .i64 2, .bool true, .string t, .slice ad n cap, .slice adk nk capk] 26))
      go_enter Tryd.func45, Tryd.ntmps45
      go_wp2_with fail
      go_quiet (fail)
      go_wp2
      go_ret
      exact ⟨rfl, below_draws HB.out _⟩
    · have HB := Lib.hid (below_new w (.cells #[.int .i64 2, .bool true, .string t, .slice ad n cap, .slice adk nk capk] 26))
      go_enter Tryd.func45, Tryd.ntmps45
      go_wp2_with fail
      go_quiet (fail)
      go_wp2
      go_ret
      exact ⟨rfl, below_draws HB.out _⟩
set_option maxRecDepth 100000 in
set_option maxHeartbeats 2000000 in
theorem alone_3 (ht : (t.toList == []) = tb) (hi : ((n : Int) == 0) = ib) (hk : ((nk : Int) == 0) = kb) (hg : ∀ W, Calls Tryd.prog 54 #[.string t] W fun e w' => e = .returned (.bool good) ∧ W = w') : Calls Tryd.prog 45 #[.agg #[.int .i64 3, .bool false, .string t, .slice ad n cap, .slice adk nk capk]] w fun e w' => e = .returned (.bool (good && ib && kb)) ∧ Below w.heap.size w w' := by
  cases good
  · have HG := Lib.hid hg
    clear hg
    have HB := Lib.hid (below_new w (.cells #[.int .i64 3, .bool false, .string t, .slice ad n cap, .slice adk nk capk] 26))
    go_enter Tryd.func45, Tryd.ntmps45
    go_wp2_with fail
    go_quiet (fail)
    go_wp2_with (go_at_call 54; refine (HG.out _).mono ?_; rintro e w' ⟨rfl, rfl⟩)
    go_ret
    exact ⟨rfl, below_draws HB.out _⟩
  · cases ib
    · have HG := Lib.hid hg
      clear hg
      have HB := Lib.hid (below_new w (.cells #[.int .i64 3, .bool false, .string t, .slice ad n cap, .slice adk nk capk] 26))
      go_enter Tryd.func45, Tryd.ntmps45
      go_wp2_with fail
      go_quiet (fail)
      go_wp2_with (go_at_call 54; refine (HG.out _).mono ?_; rintro e w' ⟨rfl, rfl⟩)
      go_ret
      exact ⟨rfl, below_draws HB.out _⟩
    · have HG := Lib.hid hg
      clear hg
      have HB := Lib.hid (below_new w (.cells #[.int .i64 3, .bool false, .string t, .slice ad n cap, .slice adk nk capk] 26))
      go_enter Tryd.func45, Tryd.ntmps45
      go_wp2_with fail
      go_quiet (fail)
      go_wp2_with (go_at_call 54; refine (HG.out _).mono ?_; rintro e w' ⟨rfl, rfl⟩)
      go_ret
      exact ⟨rfl, below_draws HB.out _⟩
set_option maxRecDepth 100000 in
set_option maxHeartbeats 2000000 in
theorem alone_4 (ht : (t.toList == []) = tb) (hi : ((n : Int) == 0) = ib) (hk : ((nk : Int) == 0) = kb) : Calls Tryd.prog 45 #[.agg #[.int .i64 4, .bool false, .string t, .slice ad n cap, .slice adk nk capk]] w fun e w' => e = .returned (.bool (decide (t.size ≤ 16384) && ib && kb)) ∧ Below w.heap.size w w' := by
  by_cases hs : t.size ≤ 16384
  · rw [decide_eq_true hs]
    cases ib
    · have HB := Lib.hid (below_new w (.cells #[.int .i64 4, .bool false, .string t, .slice ad n cap, .slice adk nk capk] 26))
      go_enter Tryd.func45, Tryd.ntmps45
      go_wp2_with fail
      go_quiet (fail)
      go_wp2
      go_ret
      exact ⟨rfl, below_draws HB.out _⟩
    · have HB := Lib.hid (below_new w (.cells #[.int .i64 4, .bool false, .string t, .slice ad n cap, .slice adk nk capk] 26))
      go_enter Tryd.func45, Tryd.ntmps45
      go_wp2_with fail
      go_quiet (fail)
      go_wp2
      go_ret
      exact ⟨rfl, below_draws HB.out _⟩
  · rw [decide_eq_false hs]
    have HB := Lib.hid (below_new w (.cells #[.int .i64 4, .bool false, .string t, .slice ad n cap, .slice adk nk capk] 26))
    go_enter Tryd.func45, Tryd.ntmps45
    go_wp2_with fail
    go_quiet (fail)
    go_wp2
    go_ret
    exact ⟨rfl, below_draws HB.out _⟩
set_option maxRecDepth 100000 in
set_option maxHeartbeats 2000000 in
theorem alone_5 (ht : (t.toList == []) = tb) (hi : ((n : Int) == 0) = ib) (hk : ((nk : Int) == 0) = kb) : Calls Tryd.prog 45 #[.agg #[.int .i64 5, .bool false, .string t, .slice ad n cap, .slice adk nk capk]] w fun e w' => e = .returned (.bool (tb && kb)) ∧ Below w.heap.size w w' := by
  cases tb
  · have HB := Lib.hid (below_new w (.cells #[.int .i64 5, .bool false, .string t, .slice ad n cap, .slice adk nk capk] 26))
    go_enter Tryd.func45, Tryd.ntmps45
    go_wp2_with fail
    go_quiet (fail)
    go_wp2
    go_ret
    exact ⟨rfl, below_draws HB.out _⟩
  · have HB := Lib.hid (below_new w (.cells #[.int .i64 5, .bool false, .string t, .slice ad n cap, .slice adk nk capk] 26))
    go_enter Tryd.func45, Tryd.ntmps45
    go_wp2_with fail
    go_quiet (fail)
    go_wp2
    go_ret
    exact ⟨rfl, below_draws HB.out _⟩
set_option maxRecDepth 100000 in
set_option maxHeartbeats 2000000 in
theorem alone_6 (ht : (t.toList == []) = tb) (hi : ((n : Int) == 0) = ib) (hk : ((nk : Int) == 0) = kb) {kok : Bool} (hq : ((nk : Int) == (n : Int)) = eqn) (hg : ∀ W, Below w.heap.size w W → Calls Tryd.prog 59 #[.slice adk nk capk] W fun e w' => e = .returned (.bool kok) ∧ W = w') : Calls Tryd.prog 45 #[.agg #[.int .i64 6, .bool false, .string t, .slice ad n cap, .slice adk nk capk]] w fun e w' => e = .returned (.bool (tb && eqn && kok)) ∧ Below w.heap.size w w' := by
  cases tb
  · have HG := Lib.hid hg
    clear hg
    have HB := Lib.hid (below_new w (.cells #[.int .i64 6, .bool false, .string t, .slice ad n cap, .slice adk nk capk] 26))
    go_enter Tryd.func45, Tryd.ntmps45
    go_wp2_with fail
    go_quiet (fail)
    go_wp2
    go_ret
    exact ⟨rfl, below_draws HB.out _⟩
  · cases eqn
    · have HG := Lib.hid hg
      clear hg
      have HB := Lib.hid (below_new w (.cells #[.int .i64 6, .bool false, .string t, .slice ad n cap, .slice adk nk capk] 26))
      go_enter Tryd.func45, Tryd.ntmps45
      go_wp2_with fail
      go_quiet (fail)
      go_wp2
      go_ret
      exact ⟨rfl, below_draws HB.out _⟩
    · have HG := Lib.hid hg
      clear hg
      have HB := Lib.hid (below_new w (.cells #[.int .i64 6, .bool false, .string t, .slice ad n cap, .slice adk nk capk] 26))
      go_enter Tryd.func45, Tryd.ntmps45
      go_wp2_with fail
      go_quiet (fail)
      go_wp2_with (go_at_call 59; refine (HG.out _ (below_draws HB.out _)).mono ?_; rintro e w' ⟨rfl, rfl⟩)
      go_ret
      exact ⟨rfl, below_draws HB.out _⟩
set_option maxRecDepth 100000 in
set_option maxHeartbeats 2000000 in
theorem alone_truth {k : Int} (ht : (t.toList == []) = tb) (hi : ((n : Int) == 0) = ib) (hk : ((nk : Int) == 0) = kb) (h2 : (k == 2) = false) : Calls Tryd.prog 45 #[.agg #[.int .i64 k, .bool true, .string t, .slice ad n cap, .slice adk nk capk]] w fun e w' => e = .returned (.bool (false)) ∧ Below w.heap.size w w' := by
  have HB := Lib.hid (below_new w (.cells #[.int .i64 k, .bool true, .string t, .slice ad n cap, .slice adk nk capk] 26))
  go_enter Tryd.func45, Tryd.ntmps45
  go_wp2_with fail
  go_quiet (fail)
  go_wp2
  go_ret
  exact ⟨rfl, below_draws HB.out _⟩
set_option maxRecDepth 100000 in
set_option maxHeartbeats 2000000 in
theorem alone_else {k : Int} (ht : (t.toList == []) = tb) (hi : ((n : Int) == 0) = ib) (hk : ((nk : Int) == 0) = kb) (h0 : (k == 0) = false) (h1 : (k == 1) = false) (h2 : (k == 2) = false) (h3 : (k == 3) = false) (h4 : (k == 4) = false) (h5 : (k == 5) = false) (h6 : (k == 6) = false) : Calls Tryd.prog 45 #[.agg #[.int .i64 k, .bool false, .string t, .slice ad n cap, .slice adk nk capk]] w fun e w' => e = .returned (.bool (false)) ∧ Below w.heap.size w w' := by
  have HB := Lib.hid (below_new w (.cells #[.int .i64 k, .bool false, .string t, .slice ad n cap, .slice adk nk capk] 26))
  go_enter Tryd.func45, Tryd.ntmps45
  go_wp2_with fail
  go_quiet (fail)
  go_wp2
  go_ret
  exact ⟨rfl, below_draws HB.out _⟩
end
end Go.Proofs.YtjgbhnbfojkhoaaDoor
namespace Go.Proofs.YtjgbhnbfojkhoaaDoor
open Go.RowKit
set_option linter.unusedVariables false

theorem alone_any {B : Nat} {w : World} {v : Value} {T : VT} (h : Is B w v T) (W : World) (hb : Below B w W) (hBW : B ≤ W.heap.size) : Calls Tryd.prog 45 #[v] W fun e w' => e = .returned (.bool (aloneT T)) ∧ Below W.heap.size W w' := by
  cases h with
  | mk k b t its ks ad cap kv g o ik ib it ii iv hk hc hnl ha hcell hrec =>
    rw [aloneT_B]
    have hg6 : ∀ W', Below W.heap.size W W' → Calls Tryd.prog 59 #[kv] W' fun e w' => e = .returned (.bool (keysOk ks)) ∧ W' = w' := fun W' hb' => goodKeys_any ((hk.below hb).below (hb'.mono hBW))
    obtain ⟨adk, capk, rfl, -⟩ := hk
    cases b
    · unfold aloneB
      simp only [Bool.not_false, Bool.true_or, Bool.true_and]
      by_cases h0 : k = 0
      · subst h0; rw [if_pos (by simp)]; exact alone_0_false rfl rfl rfl
      · by_cases h1 : k = 1
        · subst h1; rw [if_pos (by simp)]; exact alone_1_false rfl rfl rfl
        · by_cases h2 : k = 2
          · subst h2; rw [if_pos (by simp)]; exact alone_2_false rfl rfl rfl
          · rw [if_neg (by simp [h0, h1, h2])]
            by_cases h3 : k = 3
            · subst h3; rw [if_pos rfl]; exact alone_3 rfl rfl rfl (fun W' => Good_any t W')
            · rw [if_neg h3]
              by_cases h4 : k = 4
              · subst h4; rw [if_pos rfl]; exact alone_4 rfl rfl rfl
              · rw [if_neg h4]
                by_cases h5 : k = 5
                · subst h5; rw [if_pos rfl]; exact alone_5 rfl rfl rfl
                · rw [if_neg h5]
                  by_cases h6 : k = 6
                  · subst h6; rw [if_pos rfl]; exact alone_6 rfl rfl rfl rfl hg6
                  · rw [if_neg h6]
                    exact alone_else rfl rfl rfl (beq_eq_false_iff_ne.2 h0) (beq_eq_false_iff_ne.2 h1) (beq_eq_false_iff_ne.2 h2) (beq_eq_false_iff_ne.2 h3) (beq_eq_false_iff_ne.2 h4) (beq_eq_false_iff_ne.2 h5) (beq_eq_false_iff_ne.2 h6)
    · by_cases h2 : k = 2
      · subst h2
        have e : aloneB 2 true (t.toList == []) (goodB t.data.toList) (decide (t.size ≤ 16384)) ((its.length : Int) == 0) ((ks.length : Int) == 0) ((ks.length : Int) == (its.length : Int)) (keysOk ks) = ((t.toList == []) && ((its.length : Int) == 0) && ((ks.length : Int) == 0)) := by unfold aloneB; simp
        rw [e]
        exact alone_2_true rfl rfl rfl
      · have e : aloneB k true (t.toList == []) (goodB t.data.toList) (decide (t.size ≤ 16384)) ((its.length : Int) == 0) ((ks.length : Int) == 0) ((ks.length : Int) == (its.length : Int)) (keysOk ks) = false := by unfold aloneB; simp [h2]
        rw [e]
        exact alone_truth rfl rfl rfl (beq_eq_false_iff_ne.2 h2)

/-- What goodWithin tells, room for r items more. -/
def within (d r : Nat) (T : VT) : Prop := deepT d T = true ∧ sizeT T ≤ r + 1 ∧ plainT T = true
/-- .. of the first j items. -/
def withinL (d : Nat) (its : List VT) (j : Nat) : Prop := ∀ i (h : i < its.length), i < j → deepT d its[i] = true ∧ plainT its[i] = true
theorem plainL_all : ∀ {l : List VT}, (∀ j (h : j < l.length), plainT l[j] = true) → plainL l = true
  | [], _ => rfl
  | x :: l, h => by
    have h0 : plainT x = true := h 0 (by simp)
    unfold plainL
    rw [h0, plainL_all (fun j hj => h (j + 1) (by simpa using hj))]
    rfl
theorem plainL_at : ∀ {l : List VT} {j : Nat} (h : j < l.length), plainL l = true → plainT l[j] = true
  | x :: l, 0, _, e => by
    unfold plainL at e
    have := (Bool.and_eq_true_iff.1 e).1
    exact this
  | x :: l, j + 1, h, e => by
    unfold plainL at e
    exact plainL_at (l := l) (by simpa using h) (Bool.and_eq_true_iff.1 e).2
theorem within_node {d r : Nat} {k : Int} {b : Bool} {t : ByteArray} {its : List VT} {ks : List ByteArray} : within (d + 1) r (.node k b t its ks) ↔ deepL d its = true ∧ sizeL its ≤ r ∧ aloneT (.node k b t its ks) = true ∧ plainL its = true := by
  unfold within
  have h1 : deepT (d + 1) (.node k b t its ks) = deepL d its := by unfold deepT; rfl
  have h2 : sizeT (.node k b t its ks) = 1 + sizeL its := by unfold sizeT; rfl
  have h3 : plainT (.node k b t its ks) = (aloneT (.node k b t its ks) && plainL its) := by conv => lhs; unfold plainT
  rw [h1, h2, h3, Bool.and_eq_true_iff]
  constructor
  · rintro ⟨a, b, c, d⟩; exact ⟨a, by omega, c, d⟩
  · rintro ⟨a, b, c, d⟩; exact ⟨a, by omega, c, d⟩
theorem not_within_zero {r : Nat} {T : VT} : ¬ within 0 r T := by
  rintro ⟨h, -⟩
  cases T
  unfold deepT at h
  cases h
end Go.Proofs.YtjgbhnbfojkhoaaDoor
