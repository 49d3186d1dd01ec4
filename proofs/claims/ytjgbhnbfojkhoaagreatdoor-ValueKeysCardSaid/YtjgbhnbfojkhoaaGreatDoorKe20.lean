/- value.goodKeys · value.goodAlone -/
import Derived.Deep.QuietTactic
import Derived.BigQuiet
import Derived.Test.YtjgbhnbfojkhoaaGreatDoorKe08
import Derived.Test.YtjgbhnbfojkhoaaGreatDoorKe09
namespace Go.Proofs.YtjgbhnbfojkhoaaGreatDoor
open Go.RowKit
set_option linter.unusedVariables false

/-- The key at place j is as it should be. -/
def keyOk (ks : List ByteArray) (j : Nat) : Prop := (ks.getD j ⟨#[]⟩).size ≤ 16384 ∧ (0 < j → bLt (ks.getD (j - 1) ⟨#[]⟩) (ks.getD j ⟨#[]⟩) = true)
theorem keysOk_iff : ∀ ks : List ByteArray, keysOk ks = true ↔ ∀ j, j < ks.length → keyOk ks j
  | [] => by simp [keysOk]
  | [a] => by
    unfold keysOk keyOk
    rw [decide_eq_true_iff]
    constructor
    · intro h j hj
      obtain rfl : j = 0 := by simp at hj; omega
      exact ⟨h, fun h => by omega⟩
    · intro h; exact (h 0 (by simp)).1
  | a :: b :: l => by
    have ih := keysOk_iff (b :: l)
    unfold keysOk
    rw [Bool.and_eq_true_iff, Bool.and_eq_true_iff, decide_eq_true_iff, ih]
    constructor
    · rintro ⟨⟨h1, h2⟩, h3⟩ j hj
      match j with
      | 0 => exact ⟨h1, fun h => by omega⟩
      | 1 => exact ⟨(h3 0 (by simp)).1, fun _ => h2⟩
      | j + 2 =>
        have := h3 (j + 1) (by simpa using hj)
        exact ⟨this.1, fun _ => this.2 (by omega)⟩
    · intro h
      refine ⟨⟨(h 0 (by simp)).1, (h 1 (by simp)).2 (by omega)⟩, fun j hj => ?_⟩
      have h1 := h (j + 1) (by simpa using hj)
      refine ⟨h1.1, fun hp => ?_⟩
      have := h1.2 (by omega)
      rw [show j + 1 - 1 = j - 1 + 1 by omega] at this
      exact this
theorem keysOk_yes {ks : List ByteArray} (h : ∀ j, j < ks.length → keyOk ks j) : keysOk ks = true := (keysOk_iff ks).2 h
theorem keysOk_no {ks : List ByteArray} {j : Nat} (hj : j < ks.length) (h : ¬ keyOk ks j) : keysOk ks = false := by
  cases e : keysOk ks
  · rfl
  · exact absurd ((keysOk_iff ks).1 e j hj) h

theorem bLt_asymm {a b : ByteArray} (h : bLt a b = true) : bLt b a = false := by
  unfold bLt at *
  simp only [decide_eq_true_eq, decide_eq_false_iff_not] at *
  exact List.lt_asymm h
theorem bLt_ne {a b : ByteArray} (h : bLt a b = true) : (b.toList == a.toList) = false := by
  rw [beq_eq_false_iff_ne]
  intro e
  rw [ByteArray.toList_eq, ByteArray.toList_eq] at e
  unfold bLt at h
  rw [e, decide_eq_true_iff] at h
  exact List.lt_irrefl _ h
theorem bLt_same {a b : ByteArray} (h : bLt a b = false) (h' : bLt b a = false) : (b.toList == a.toList) = true := by
  rw [beq_iff_eq, ByteArray.toList_eq, ByteArray.toList_eq]
  unfold bLt at *
  simp only [decide_eq_false_iff_not, List.not_lt] at *
  exact List.le_antisymm h h'
set_option maxRecDepth 100000 in
set_option maxHeartbeats 2000000 in
theorem goodKeys_any {B : Nat} {w : World} {v : Value} {ks : List ByteArray} (h : StrsAt B w v ks) : Calls Tryz.prog 157 #[v] w fun e w' => e = .returned (.bool (keysOk ks)) ∧ w = w' := by
  obtain ⟨ad, cap, rfl, hnc, hcap, hc⟩ := h
  have HC := Lib.hid hc
  obtain ⟨n, hn⟩ : ∃ n, ks.length = n := ⟨_, rfl⟩
  have HN := Lib.hid hn
  rw [hn] at hnc hcap ⊢
  clear hc hn
  obtain ⟨r, hr⟩ : ∃ r, keysOk ks = r := ⟨_, rfl⟩
  have HR := Lib.hid hr
  rw [hr]
  clear hr
  go_enter Tryz.func157, Tryz.ntmps157
  go_wp2
  go_loop [7] (fun jv => ∃ j : Nat, jv = .int .i64 j ∧ j ≤ n ∧ Hid (∀ i, i < j → keyOk ks i)) (fun jv => n - (intOf jv).toNat)
  case atStart => exact ⟨0, rfl, by omega, Lib.hid (fun i h => by omega)⟩
  case round =>
    obtain ⟨j, rfl, hj, HI⟩ := hrel
    by_cases hlt : j < n
    · have hjl : j < ks.length := by have := HN.out; omega
      obtain ⟨g, o, rfl, -, hcs⟩ := HC.out (by omega)
      have hcell := hcs j hjl
      have ed : ks.getD j ⟨#[]⟩ = ks[j] := by simp [List.getD, hjl]
      obtain ⟨kj, hkj⟩ : ∃ kj, ks[j] = kj := ⟨_, rfl⟩
      rw [hkj] at hcell ed
      have HE := Lib.hid ed
      have i1 : (0 : Int) ≤ (j : Int) := by omega
      have i2 : (j : Int) < (n : Int) := by omega
      clear ed hkj
      by_cases hsz : kj.size ≤ 16384
      · rcases Nat.eq_zero_or_pos j with hj0 | hj0
        · subst hj0
          rw [Nat.add_zero] at hcell
          clear hcs
          go_wp2
          go_round
          case rel => exact ⟨1, by go_num, by omega, Lib.hid (fun i hi => by
            obtain rfl : i = 0 := by omega
            exact ⟨by rw [HE.out]; exact hsz, fun h => by omega⟩)⟩
          case measure => simp [intOf]; omega
        · obtain ⟨l, rfl⟩ : ∃ l, j = l + 1 := ⟨j - 1, by omega⟩
          have hll : l < ks.length := by omega
          have hcl := hcs l hll
          have edl : ks.getD l ⟨#[]⟩ = ks[l] := by simp [List.getD, hll]
          obtain ⟨kl, hkl⟩ : ∃ kl, ks[l] = kl := ⟨_, rfl⟩
          rw [hkl] at hcl edl
          have HEl := Lib.hid edl
          have i3 : (0 : Int) ≤ (l : Int) := by omega
          have i4 : (l : Int) < (n : Int) := by omega
          have hbl := bLess_eq kj kl
          clear edl hkl hcs
          cases hb : bLt kl kj
          · have HB := Lib.hid hb
            have HF : Hid (r = false) := Lib.hid (by
              rw [← HR.out]
              refine keysOk_no hjl (fun h => ?_)
              have := h.2 (by omega)
              rw [Nat.add_sub_cancel, HEl.out, HE.out, HB.out] at this
              cases this)
            cases hb2 : bLt kj kl
            · rw [hb2] at hbl
              have heq : (kj.toList == kl.toList) = true := bLt_same hb hb2
              clear hb hb2
              go_wp2
              go_ret
              exact ⟨by rw [HF.out]; rfl, rfl⟩
            · rw [hb2] at hbl
              clear hb hb2
              go_wp2
              go_ret
              exact ⟨by rw [HF.out]; rfl, rfl⟩
          · have HB := Lib.hid hb
            rw [bLt_asymm hb] at hbl
            have heq : (kj.toList == kl.toList) = false := bLt_ne hb
            clear hb
            go_wp2
            go_round
            case rel => exact ⟨l + 1 + 1, by go_num, by omega, Lib.hid (fun i hi => by
              rcases Nat.eq_or_lt_of_le (show i ≤ l + 1 by omega) with h | h
              · subst h; exact ⟨by rw [HE.out]; exact hsz, fun _ => by rw [Nat.add_sub_cancel, HEl.out, HE.out]; exact HB.out⟩
              · exact HI.out i h)⟩
            case measure => simp [intOf]; omega
      · have HF : Hid (r = false) := Lib.hid (by
          rw [← HR.out]
          refine keysOk_no hjl (fun h => hsz ?_)
          have := h.1
          rw [HE.out] at this
          exact this)
        clear hcs
        go_wp2
        go_ret
        exact ⟨by rw [HF.out]; rfl, rfl⟩
    · have HT : Hid (r = true) := Lib.hid (by rw [← HR.out]; exact keysOk_yes (fun j hj => HI.out j (by have := HN.out; omega)))
      go_wp2
      go_ret
      exact ⟨by rw [HT.out]; rfl, rfl⟩
end Go.Proofs.YtjgbhnbfojkhoaaGreatDoor
namespace Go.Proofs.YtjgbhnbfojkhoaaGreatDoor
open Go.RowKit
set_option linter.unusedVariables false

/-- Has a value just what its kind needs: tb: no text; good: the text is a number; short: it isn't too long; ib, kb: no items, no keys; eqn: as many; kok: the keys are as they should be. -/
def aloneB (k : Int) (b tb good short ib kb eqn kok : Bool) : Bool := (!b || k == 2) && (if k = 0 ∨ k = 1 ∨ k = 2 then tb && ib && kb else if k = 3 then good && ib && kb else if k = 4 then short && ib && kb else if k = 5 then tb && kb else if k = 6 then tb && eqn && kok else false)
theorem aloneT_B (k : Int) (b : Bool) (t : ByteArray) (its : List VT) (ks : List ByteArray) : aloneT (.node k b t its ks) = aloneB k b (t.toList == []) (goodB t.data.toList) (decide (t.size ≤ 16384)) ((its.length : Int) == 0) ((ks.length : Int) == 0) ((ks.length : Int) == (its.length : Int)) (keysOk ks) := by
  have e1 : ((its.length : Int) == 0) = its.isEmpty := by cases its <;> simp <;> omega
  have e2 : ((ks.length : Int) == 0) = ks.isEmpty := by cases ks <;> simp <;> omega
  have e3 : ((ks.length : Int) == (its.length : Int)) = decide (ks.length = its.length) := by rw [Bool.eq_iff_iff, beq_iff_eq, decide_eq_true_iff]; omega
  rw [e1, e2, e3]
  rfl

theorem below_draws {B : Nat} {a c : World} (h : Below B a c) (n : Nat) : Below B a (c.drewN n) := ⟨h.os, h.tape, h.output, h.size, h.block⟩
section
variable {B : Nat} {w : World} {t : ByteArray} {ad adk : Option Addr} {n cap nk capk : Nat} {tb good ib kb eqn : Bool}
set_option maxRecDepth 100000 in
set_option maxHeartbeats 2000000 in
theorem alone_0_false (ht : (t.toList == []) = tb) (hi : ((n : Int) == 0) = ib) (hk : ((nk : Int) == 0) = kb) : Calls Tryz.prog 123 #[.agg #[.int .i64 0, .bool false, .string t, .slice ad n cap, .slice adk nk capk]] w fun e w' => e = .returned (.bool (tb && ib && kb)) ∧ Below w.heap.size w w' := by
  cases tb
  · have HB := Lib.hid (below_new w (.cells #[.int .i64 0, .bool false, .string t, .slice ad n cap, .slice adk nk capk] 26))
    go_enter Tryz.func123, Tryz.ntmps123
    go_wp2_with fail
    go_quiet (fail)
    go_wp2
    go_ret
    exact ⟨rfl, below_draws HB.out _⟩
  · cases ib
    · have HB := Lib.hid (below_new w (.cells #[.int .i64 0, .bool false, .string t, .slice ad n cap, .slice adk nk capk] 26))
      go_enter Tryz.func123, Tryz.ntmps123
      go_wp2_with fail
      go_quiet (fail)
      go_wp2
      go_ret
      exact ⟨rfl, below_draws HB.out _⟩
    · have HB := Lib.hid (below_new w (.cells #[.int .i64 0, .bool false, .string t, .slice ad n cap, .slice adk nk capk] 26))
      go_enter Tryz.func123, Tryz.ntmps123
      go_wp2_with fail
      go_quiet (fail)
      go_wp2
      go_ret
      exact ⟨rfl, below_draws HB.out _⟩
set_option maxRecDepth 100000 in
set_option maxHeartbeats 2000000 in
theorem alone_1_false (ht : (t.toList == []) = tb) (hi : ((n : Int) == 0) = ib) (hk : ((nk : Int) == 0) = kb) : Calls Tryz.prog 123 #[.agg #[.int .i64 1, .bool false, .string t, .slice ad n cap, .slice adk nk capk]] w fun e w' => e = .returned (.bool (tb && ib && kb)) ∧ Below w.heap.size w w' := by
  cases tb
  · have HB := Lib.hid (below_new w (.cells #[.int .i64 1, .bool false, .string t, .slice ad n cap, .slice adk nk capk] 26))
    go_enter Tryz.func123, Tryz.ntmps123
    go_wp2_with fail
    go_quiet (fail)
    go_wp2
    go_ret
    exact ⟨rfl, below_draws HB.out _⟩
  · cases ib
    · have HB := Lib.hid (below_new w (.cells #[.int .i64 1, .bool false, .string t, .slice ad n cap, .slice adk nk capk] 26))
      go_enter Tryz.func123, Tryz.ntmps123
      go_wp2_with fail
      go_quiet (fail)
      go_wp2
      go_ret
      exact ⟨rfl, below_draws HB.out _⟩
    · have HB := Lib.hid (below_new w (.cells #[.int .i64 1, .bool false, .string t, .slice ad n cap, .slice adk nk capk] 26))
      go_enter Tryz.func123, Tryz.ntmps123
      go_wp2_with fail
      go_quiet (fail)
      go_wp2
      go_ret
      exact ⟨rfl, below_draws HB.out _⟩
set_option maxRecDepth 100000 in
set_option maxHeartbeats 2000000 in
theorem alone_2_false (ht : (t.toList == []) = tb) (hi : ((n : Int) == 0) = ib) (hk : ((nk : Int) == 0) = kb) : Calls Tryz.prog 123 #[.agg #[.int .i64 2, .bool false, .string t, .slice ad n cap, .slice adk nk capk]] w fun e w' => e = .returned (.bool (tb && ib && kb)) ∧ Below w.heap.size w w' := by
  cases tb
  · have HB := Lib.hid (below_new w (.cells #[.int .i64 2, .bool false, .string t, .slice ad n cap, .slice adk nk capk] 26))
    go_enter Tryz.func123, Tryz.ntmps123
    go_wp2_with fail
    go_quiet (fail)
    go_wp2
    go_ret
    exact ⟨rfl, below_draws HB.out _⟩
  · cases ib
    · have HB := Lib.hid (below_new w (.cells #[.int .i64 2, .bool false, .string t, .slice ad n cap, .slice adk nk capk] 26))
      go_enter Tryz.func123, Tryz.ntmps123
      go_wp2_with fail
      go_quiet (fail)
      go_wp2
      go_ret
      exact ⟨rfl, below_draws HB.out _⟩
    · have HB := Lib.hid (below_new w (.cells #[.int .i64 2, .bool false, .string t, .slice ad n cap, .slice adk nk capk] 26))
      go_enter Tryz.func123, Tryz.ntmps123
      go_wp2_with fail
      go_quiet (fail)
      go_wp2
      go_ret
      exact ⟨rfl, below_draws HB.out _⟩
set_option maxRecDepth 100000 in
set_option maxHeartbeats 2000000 in
theorem alone_2_true (ht : (t.toList == []) = tb) (hi : ((n : Int) == 0) = ib) (hk : ((nk : Int) == 0) = kb) : Calls Tryz.prog 123 #[.agg #[.int .i64 2, .bool true, .string t, .slice ad n cap, .slice adk nk capk]] w fun e w' => e = .returned (.bool (tb && ib && kb)) ∧ Below w.heap.size w w' := by
  cases tb
  · have HB := Lib.hid (below_new w (.cells #[.int .i64 2, .bool true, .string t, .slice ad n cap, .slice adk nk capk] 26))
    go_enter Tryz.func123, Tryz.ntmps123
    go_wp2_with fail
    go_quiet (fail)
    go_wp2
    go_ret
    exact ⟨rfl, below_draws HB.out _⟩
  · cases ib
    · have HB := Lib.hid (below_new w (.cells #[.int .i64 2, .bool true, .string t, .slice ad n cap, .slice adk nk capk] 26))
      go_enter Tryz.func123, Tryz.ntmps123
      go_wp2_with fail
      go_quiet (fail)
      go_wp2
      go_ret
      exact ⟨rfl, below_draws HB.out _⟩
    · have HB := Lib.hid (below_new w (.cells #[.int .i64 2, .bool true, .string t, .slice ad n cap, .slice adk nk capk] 26))
      go_enter Tryz.func123, Tryz.ntmps123
      go_wp2_with fail
      go_quiet (fail)
      go_wp2
      go_ret
      exact ⟨rfl, below_draws HB.out _⟩
set_option maxRecDepth 100000 in
set_option maxHeartbeats 2000000 in
theorem alone_3 (ht : (t.toList == []) = tb) (hi : ((n : Int) == 0) = ib) (hk : ((nk : Int) == 0) = kb) (hg : ∀ W, Calls Tryz.prog 74 #[.string t] W fun e w' => e = .returned (.bool good) ∧ W = w') : Calls Tryz.prog 123 #[.agg #[.int .i64 3, .bool false, .string t, .slice ad n cap, .slice adk nk capk]] w fun e w' => e = .returned (.bool (good && ib && kb)) ∧ Below w.heap.size w w' := by
  cases good
  · have HG := Lib.hid hg
    clear hg
    have HB := Lib.hid (below_new w (.cells #[.int .i64 3, .bool false, .string t, .slice ad n cap, .slice adk nk capk] 26))
    go_enter Tryz.func123, Tryz.ntmps123
    go_wp2_with fail
    go_quiet (fail)
    go_wp2_with (go_at_call 74; refine (HG.out _).mono ?_; rintro e w' ⟨rfl, rfl⟩)
    go_ret
    exact ⟨rfl, below_draws HB.out _⟩
  · cases ib
    · have HG := Lib.hid hg
      clear hg
      have HB := Lib.hid (below_new w (.cells #[.int .i64 3, .bool false, .string t, .slice ad n cap, .slice adk nk capk] 26))
      go_enter Tryz.func123, Tryz.ntmps123
      go_wp2_with fail
      go_quiet (fail)
      go_wp2_with (go_at_call 74; refine (HG.out _).mono ?_; rintro e w' ⟨rfl, rfl⟩)
      go_ret
      exact ⟨rfl, below_draws HB.out _⟩
    · have HG := Lib.hid hg
      clear hg
      have HB := Lib.hid (below_new w (.cells #[.int .i64 3, .bool false, .string t, .slice ad n cap, .slice adk nk capk] 26))
      go_enter Tryz.func123, Tryz.ntmps123
      go_wp2_with fail
      go_quiet (fail)
      go_wp2_with (go_at_call 74; refine (HG.out _).mono ?_; rintro e w' ⟨rfl, rfl⟩)
      go_ret
      exact ⟨rfl, below_draws HB.out _⟩
set_option maxRecDepth 100000 in
set_option maxHeartbeats 2000000 in
theorem alone_4 (ht : (t.toList == []) = tb) (hi : ((n : Int) == 0) = ib) (hk : ((nk : Int) == 0) = kb) : Calls Tryz.prog 123 #[.agg #[.int .i64 4, .bool false, .string t, .slice ad n cap, .slice adk nk capk]] w fun e w' => e = .returned (.bool (decide (t.size ≤ 16384) && ib && kb)) ∧ Below w.heap.size w w' := by
  by_cases hs : t.size ≤ 16384
  · rw [decide_eq_true hs]
    cases ib
    · have HB := Lib.hid (below_new w (.cells #[.int .i64 4, .bool false, .string t, .slice ad n cap, .slice adk nk capk] 26))
      go_enter Tryz.func123, Tryz.ntmps123
      go_wp2_with fail
      go_quiet (fail)
      go_wp2
      go_ret
      exact ⟨rfl, below_draws HB.out _⟩
    · have HB := Lib.hid (below_new w (.cells #[.int .i64 4, .bool false, .string t, .slice ad n cap, .slice adk nk capk] 26))
      go_enter Tryz.func123, Tryz.ntmps123
      go_wp2_with fail
      go_quiet (fail)
      go_wp2
      go_ret
      exact ⟨rfl, below_draws HB.out _⟩
  · rw [decide_eq_false hs]
    have HB := Lib.hid (below_new w (.cells #[.int .i64 4, .bool false, .string t, .slice ad n cap, .slice adk nk capk] 26))
    go_enter Tryz.func123, Tryz.ntmps123
    go_wp2_with fail
    go_quiet (fail)
    go_wp2
    go_ret
    exact ⟨rfl, below_draws HB.out _⟩
set_option maxRecDepth 100000 in
set_option maxHeartbeats 2000000 in
theorem alone_5 (ht : (t.toList == []) = tb) (hi : ((n : Int) == 0) = ib) (hk : ((nk : Int) == 0) = kb) : Calls Tryz.prog 123 #[.agg #[.int .i64 5, .bool false, .string t, .slice ad n cap, .slice adk nk capk]] w fun e w' => e = .returned (.bool (tb && kb)) ∧ Below w.heap.size w w' := by
  cases tb
  · have HB := Lib.hid (below_new w (.cells #[.int .i64 5, .bool false, .string t, .slice ad n cap, .slice adk nk capk] 26))
    go_enter Tryz.func123, Tryz.ntmps123
    go_wp2_with fail
    go_quiet (fail)
    go_wp2
    go_ret
    exact ⟨rfl, below_draws HB.out _⟩
  · have HB := Lib.hid (below_new w (.cells #[.int .i64 5, .bool false, .string t, .slice ad n cap, .slice adk nk capk] 26))
    go_enter Tryz.func123, Tryz.ntmps123
    go_wp2_with fail
    go_quiet (fail)
    go_wp2
    go_ret
    exact ⟨rfl, below_draws HB.out _⟩
set_option maxRecDepth 100000 in
set_option maxHeartbeats 2000000 in
theorem alone_6 (ht : (t.toList == []) = tb) (hi : ((n : Int) == 0) = ib) (hk : ((nk : Int) == 0) = kb) {kok : Bool} (hq : ((nk : Int) == (n : Int)) = eqn) (hg : ∀ W, Below w.heap.size w W → Calls Tryz.prog 157 #[.slice adk nk capk] W fun e w' => e = .returned (.bool kok) ∧ W = w') : Calls Tryz.prog 123 #[.agg #[.int .i64 6, .bool false, .string t, .slice ad n cap, .slice adk nk capk]] w fun e w' => e = .returned (.bool (tb && eqn && kok)) ∧ Below w.heap.size w w' := by
  cases tb
  · have HG := Lib.hid hg
    clear hg
    have HB := Lib.hid (below_new w (.cells #[.int .i64 6, .bool false, .string t, .slice ad n cap, .slice adk nk capk] 26))
    go_enter Tryz.func123, Tryz.ntmps123
    go_wp2_with fail
    go_quiet (fail)
    go_wp2
    go_ret
    exact ⟨rfl, below_draws HB.out _⟩
  · cases eqn
    · have HG := Lib.hid hg
      clear hg
      have HB := Lib.hid (below_new w (.cells #[.int .i64 6, .bool false, .string t, .slice ad n cap, .slice adk nk capk] 26))
      go_enter Tryz.func123, Tryz.ntmps123
      go_wp2_with fail
      go_quiet (fail)
      go_wp2
      go_ret
      exact ⟨rfl, below_draws HB.out _⟩
    · have HG := Lib.hid hg
      clear hg
      have HB := Lib.hid (below_new w (.cells #[.int .i64 6, .bool false, .string t, .slice ad n cap, .slice adk nk capk] 26))
      go_enter Tryz.func123, Tryz.ntmps123
      go_wp2_with fail
      go_quiet (fail)
      go_wp2_with (go_at_call 157; refine (HG.out _ (below_draws HB.out _)).mono ?_; rintro e w' ⟨rfl, rfl⟩)
      go_ret
      exact ⟨rfl, below_draws HB.out _⟩
set_option maxRecDepth 100000 in
set_option maxHeartbeats 2000000 in
theorem alone_truth {k : Int} (ht : (t.toList == []) = tb) (hi : ((n : Int) == 0) = ib) (hk : ((nk : Int) == 0) = kb) (h2 : (k == 2) = false) : Calls Tryz.prog 123 #[.agg #[.int .i64 k, .bool true, .string t, .slice ad n cap, .slice adk nk capk]] w fun e w' => e = .returned (.bool (false)) ∧ Below w.heap.size w w' := by
  have HB := Lib.hid (below_new w (.cells #[.int .i64 k, .bool true, .string t, .slice ad n cap, .slice adk nk capk] 26))
  go_enter Tryz.func123, Tryz.ntmps123
  go_wp2_with fail
  go_quiet (fail)
  go_wp2
  go_ret
  exact ⟨rfl, below_draws HB.out _⟩
set_option maxRecDepth 100000 in
set_option maxHeartbeats 2000000 in
theorem alone_else {k : Int} (ht : (t.toList == []) = tb) (hi : ((n : Int) == 0) = ib) (hk : ((nk : Int) == 0) = kb) (h0 : (k == 0) = false) (h1 : (k == 1) = false) (h2 : (k == 2) = false) (h3 : (k == 3) = false) (h4 : (k == 4) = false) (h5 : (k == 5) = false) (h6 : (k == 6) = false) : Calls Tryz.prog 123 #[.agg #[.int .i64 k, .bool false, .string t, .slice ad n cap, .slice adk nk capk]] w fun e w' => e = .returned (.bool (false)) ∧ Below w.heap.size w w' := by
  have HB := Lib.hid (below_new w (.cells #[.int .i64 k, .bool false, .string t, .slice ad n cap, .slice adk nk capk] 26))
  go_enter Tryz.func123, Tryz.ntmps123
  go_wp2_with fail
  go_quiet (fail)
  go_wp2
  go_ret
  exact ⟨rfl, below_draws HB.out _⟩
end
end Go.Proofs.YtjgbhnbfojkhoaaGreatDoor
